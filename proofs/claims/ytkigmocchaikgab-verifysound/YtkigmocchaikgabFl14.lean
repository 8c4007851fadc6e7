import Derived.Test.YtkigmocchaikgabFl2
import Derived.Test.YtkigmocchaikgabProg
import Derived.Test.YtkigmocchaikgabFl8
import Derived.Test.YtkigmocchaikgabFl3
import Derived.Test.YtkigmocchaikgabFl11
/- Ways of bodies, written by a program (ways.py): what each asks for, and hands back. -/
namespace Go.Proofs.Ytkigmocchaikgab
open Go.RowKit

theorem vsErr_w0 {L : List Ins} {c : Nat} {s : ByteArray} {x : BitVec 64} {r1 : Outc} {e : Int} {f : Int} {w : World} {β : Bs} {n : Nat} (h : (e != 0 && true) = true) (c0 : CallOK Try.prog (CallRec.mk 23 [AV.c (AC.sl 0 0 (List.length L) c)] [(0, Ent.mk false (pcell L) 0)] (Eff.mk (AV.tu [AT.ag [AC.i 0, AC.i 0, nilSl], AT.c (AC.i e)]) [] none))) (c1 : CallOK Try.prog (CallRec.mk 9 [AV.c (AC.sl 0 0 (List.length L) c), AV.c (AC.s s), AV.c (AC.u x)] [(0, Ent.mk false (pcell L) 0)] (Eff.mk (AV.tu [AT.ag (Outc.cs r1), AT.c (AC.i f)]) [] none))) (c2 : CallOK Try.prog (CallRec.mk 24 [] [] (Eff.mk (AV.c (AC.b true)) [] none))) :
    ART Try.prog 6 (cx w β n []) Try.f6.ntmps ([Item.code (bodyOf Try.f6)]) (Kn.start [AV.c (AC.sl 0 0 (List.length L) c), AV.c (AC.s s), AV.c (AC.u x)] [(0, Ent.mk false (pcell L) 0)] 1) (REff w β ⟨AV.c (AC.b true), [], none⟩) :=
  run_eff [] (none) 2000 [Eff.mk (AV.tu [AT.ag [AC.i 0, AC.i 0, nilSl], AT.c (AC.i e)]) [] none, Eff.mk (AV.tu [AT.ag (Outc.cs r1), AT.c (AC.i f)]) [] none, Eff.mk (AV.c (AC.b true)) [] none] [true, true, true] ([]) [] Try.func6 (ekeys0 rfl n) (by kernel_rfl) h (cr_cons c0 (cr_cons c1 (cr_cons c2 cr_nil)))
theorem vsNil_w0 {s : ByteArray} {x : BitVec 64} {r1 : Outc} {e : Int} {f : Int} (h : (e != 0 && true) = true) (c0 : CallOK Try.prog (CallRec.mk 23 [AV.c nilSl] [] (Eff.mk (AV.tu [AT.ag [AC.i 0, AC.i 0, nilSl], AT.c (AC.i e)]) [] none))) (c1 : CallOK Try.prog (CallRec.mk 9 [AV.c nilSl, AV.c (AC.s s), AV.c (AC.u x)] [] (Eff.mk (AV.tu [AT.ag (Outc.cs r1), AT.c (AC.i f)]) [] none))) (c2 : CallOK Try.prog (CallRec.mk 24 [] [] (Eff.mk (AV.c (AC.b true)) [] none))) :
    CallOK Try.prog ⟨6, [AV.c nilSl, AV.c (AC.s s), AV.c (AC.u x)], [], ⟨AV.c (AC.b true), [], none⟩⟩ :=
  val_run 2000 [Eff.mk (AV.tu [AT.ag [AC.i 0, AC.i 0, nilSl], AT.c (AC.i e)]) [] none, Eff.mk (AV.tu [AT.ag (Outc.cs r1), AT.c (AC.i f)]) [] none, Eff.mk (AV.c (AC.b true)) [] none] [true, true, true] ([]) [] Try.func6 rfl rfl rfl rfl (by kernel_rfl) h (cr_cons c0 (cr_cons c1 (cr_cons c2 cr_nil)))
theorem vsOkF_w0 {L : List Ins} {c : Nat} {S : List St} {s : ByteArray} {x : BitVec 64} {r1 : Outc} {f : Int} {w : World} {β : Bs} {n : Nat} (h : (f != 0 && true) = true) (c0 : CallOK Try.prog (CallRec.mk 23 [AV.c (AC.sl 0 0 (List.length L) c)] [(0, Ent.mk false (pcell L) 0)] (Eff.mk (AV.tu [AT.ag [AC.i 0, AC.i 0, AC.sl 3 0 (List.length L) (List.length L)], AT.c (AC.i 0)]) [] (some (3, Ent.mk true (scell S) 0))))) (c1 : CallOK Try.prog (CallRec.mk 9 [AV.c (AC.sl 0 0 (List.length L) c), AV.c (AC.s s), AV.c (AC.u x)] [(0, Ent.mk false (pcell L) 0)] (Eff.mk (AV.tu [AT.ag (Outc.cs r1), AT.c (AC.i f)]) [] none))) (c2 : CallOK Try.prog (CallRec.mk 24 [] [] (Eff.mk (AV.c (AC.b true)) [] none))) :
    ART Try.prog 6 (cx w β n []) Try.f6.ntmps ([Item.code (bodyOf Try.f6)]) (Kn.start [AV.c (AC.sl 0 0 (List.length L) c), AV.c (AC.s s), AV.c (AC.u x)] [(0, Ent.mk false (pcell L) 0)] 1) (REff w β ⟨AV.c (AC.b true), [], none⟩) :=
  run_eff [] (none) 2000 [Eff.mk (AV.tu [AT.ag [AC.i 0, AC.i 0, AC.sl 3 0 (List.length L) (List.length L)], AT.c (AC.i 0)]) [] (some (3, Ent.mk true (scell S) 0)), Eff.mk (AV.tu [AT.ag (Outc.cs r1), AT.c (AC.i f)]) [] none, Eff.mk (AV.c (AC.b true)) [] none] [false, true, true] ([]) [] Try.func6 (ekeys0 rfl n) (by kernel_rfl) h (cr_cons c0 (cr_cons c1 (cr_cons c2 cr_nil)))
theorem vsTrF_w0 {L : List Ins} {c : Nat} {q : Nat} {S : List St} {s : ByteArray} {x : BitVec 64} {r1 : Outc} {f : Int} {tr : Int} {p : Int} {w : World} {β : Bs} {n : Nat} (h : (f != 0 && true) = true) (c0 : CallOK Try.prog (CallRec.mk 23 [AV.c (AC.sl 0 0 (List.length L) c)] [(0, Ent.mk false (pcell L) 0)] (Eff.mk (AV.tu [AT.ag [AC.i tr, AC.i p, AC.sx 3 q], AT.c (AC.i 0)]) [] (some (3, Ent.mk true (scell S) 31))))) (c1 : CallOK Try.prog (CallRec.mk 9 [AV.c (AC.sl 0 0 (List.length L) c), AV.c (AC.s s), AV.c (AC.u x)] [(0, Ent.mk false (pcell L) 0)] (Eff.mk (AV.tu [AT.ag (Outc.cs r1), AT.c (AC.i f)]) [] none))) (c2 : CallOK Try.prog (CallRec.mk 24 [] [] (Eff.mk (AV.c (AC.b true)) [] none))) :
    ART Try.prog 6 (cx w β n []) Try.f6.ntmps ([Item.code (bodyOf Try.f6)]) (Kn.start [AV.c (AC.sl 0 0 (List.length L) c), AV.c (AC.s s), AV.c (AC.u x)] [(0, Ent.mk false (pcell L) 0)] 1) (REff w β ⟨AV.c (AC.b true), [], none⟩) :=
  run_eff [] (none) 2000 [Eff.mk (AV.tu [AT.ag [AC.i tr, AC.i p, AC.sx 3 q], AT.c (AC.i 0)]) [] (some (3, Ent.mk true (scell S) 31)), Eff.mk (AV.tu [AT.ag (Outc.cs r1), AT.c (AC.i f)]) [] none, Eff.mk (AV.c (AC.b true)) [] none] [false, true, true] ([]) [] Try.func6 (ekeys0 rfl n) (by kernel_rfl) h (cr_cons c0 (cr_cons c1 (cr_cons c2 cr_nil)))
theorem vsTr_w0 {L : List Ins} {c : Nat} {q : Nat} {S : List St} {s : ByteArray} {x : BitVec 64} {r1 : Outc} {tr : Int} {p : Int} {w : World} {β : Bs} {n : Nat} (h : (tr != 0 && true) = true) (c0 : CallOK Try.prog (CallRec.mk 23 [AV.c (AC.sl 0 0 (List.length L) c)] [(0, Ent.mk false (pcell L) 0)] (Eff.mk (AV.tu [AT.ag [AC.i tr, AC.i p, AC.sx 3 q], AT.c (AC.i 0)]) [] (some (3, Ent.mk true (scell S) 31))))) (c1 : CallOK Try.prog (CallRec.mk 9 [AV.c (AC.sl 0 0 (List.length L) c), AV.c (AC.s s), AV.c (AC.u x)] [(0, Ent.mk false (pcell L) 0)] (Eff.mk (AV.tu [AT.ag (Outc.cs r1), AT.c (AC.i 0)]) [] none))) (c2 : CallOK Try.prog (CallRec.mk 24 [] [] (Eff.mk (AV.c (AC.b true)) [] none))) :
    ART Try.prog 6 (cx w β n []) Try.f6.ntmps ([Item.code (bodyOf Try.f6)]) (Kn.start [AV.c (AC.sl 0 0 (List.length L) c), AV.c (AC.s s), AV.c (AC.u x)] [(0, Ent.mk false (pcell L) 0)] 1) (REff w β ⟨AV.c (AC.b true), [], none⟩) :=
  run_eff [] (none) 2000 [Eff.mk (AV.tu [AT.ag [AC.i tr, AC.i p, AC.sx 3 q], AT.c (AC.i 0)]) [] (some (3, Ent.mk true (scell S) 31)), Eff.mk (AV.tu [AT.ag (Outc.cs r1), AT.c (AC.i 0)]) [] none, Eff.mk (AV.c (AC.b true)) [] none] [false, false, true] ([]) [] Try.func6 (ekeys0 rfl n) (by kernel_rfl) h (cr_cons c0 (cr_cons c1 (cr_cons c2 cr_nil)))
theorem vsOk_w0 {L : List Ins} {c : Nat} {S : List St} {s : ByteArray} {s1 : ByteArray} {x : BitVec 64} {y : BitVec 64} {n1 : Int} {p : Int} {w : World} {β : Bs} {n : Nat} (c0 : CallOK Try.prog (CallRec.mk 23 [AV.c (AC.sl 0 0 (List.length L) c)] [(0, Ent.mk false (pcell L) 0)] (Eff.mk (AV.tu [AT.ag [AC.i 0, AC.i 0, AC.sl 3 0 (List.length L) (List.length L)], AT.c (AC.i 0)]) [] (some (3, Ent.mk true (scell S) 0))))) (c1 : CallOK Try.prog (CallRec.mk 9 [AV.c (AC.sl 0 0 (List.length L) c), AV.c (AC.s s), AV.c (AC.u x)] [(0, Ent.mk false (pcell L) 0)] (Eff.mk (AV.tu [AT.ag (Outc.cs (Outc.mk 3 p n1 y s1)), AT.c (AC.i 0)]) [] none))) (c2 : CallOK Try.prog (CallRec.mk 24 [] [] (Eff.mk (AV.c (AC.b true)) [] none))) :
    ART Try.prog 6 (cx w β n []) Try.f6.ntmps ([Item.code (bodyOf Try.f6)]) (Kn.start [AV.c (AC.sl 0 0 (List.length L) c), AV.c (AC.s s), AV.c (AC.u x)] [(0, Ent.mk false (pcell L) 0)] 1) (REff w β ⟨AV.c (AC.b (decide (n1 ≤ (↑(List.length L) : Int)))), [], none⟩) :=
  run_eff [] (none) 2000 [Eff.mk (AV.tu [AT.ag [AC.i 0, AC.i 0, AC.sl 3 0 (List.length L) (List.length L)], AT.c (AC.i 0)]) [] (some (3, Ent.mk true (scell S) 0)), Eff.mk (AV.tu [AT.ag (Outc.cs (Outc.mk 3 p n1 y s1)), AT.c (AC.i 0)]) [] none, Eff.mk (AV.c (AC.b true)) [] none] [false, false, false, true, true] ([]) [] Try.func6 (ekeys0 rfl n) (by kernel_rfl) rfl (cr_cons c0 (cr_cons c1 (cr_cons c2 cr_nil)))
end Go.Proofs.Ytkigmocchaikgab

/- The law VerifySound, as a contract. -/
namespace Go.Proofs.Ytkigmocchaikgab
open Go.RowKit

theorem outc_3 {r : Outc} (h : r.fin = 3) : r = ⟨3, r.t, r.n, r.ret, r.mem⟩ := by cases r; simp_all
theorem verifySound_ok (L : List Ins) (c : Nat) (s : ByteArray) (x : BitVec 64) : CallOK Try.prog ⟨6, [.c (.sl 0 0 L.length c), .c (.s s), .c (.u x)], pH L, ⟨.c (.b true), [], none⟩⟩ := by
  refine read_of Try.func6 rfl rfl (begin_p rfl) rfl ro_p fun w β => ?_
  have hb := verifyBegun_ok
  have hr := run_ok L c s x
  by_cases hL : codeErr L = 0
  · have hP := codeErr_zero hL
    by_cases hs : s.size = 64
    · have hE : runErr L s = 0 := by unfold runErr; rw [if_neg (by simpa using hL), if_neg (by simpa using hs)]
      unfold runRes at hr
      rw [hE, if_neg (by decide)] at hr
      by_cases h0 : (verifyS L).trap = 0
      · have hv := verify_okK (c := c) hL h0 (K := 3) (by decide)
        obtain ⟨h3, hn⟩ := runOut_stops hP h0 hs x
        rw [outc_3 h3] at hr
        refine art_eq (vsOk_w0 hv hr hb) ?_
        rw [decide_eq_true hn]
      · have hv := verify_trK (c := c) hL h0 (K := 3) (by decide)
        exact vsTr_w0 (and_yes (by simpa using h0) rfl) hv hr hb
    · have hE : runErr L s = 1 := by unfold runErr; rw [if_neg (by simpa using hL), if_pos hs]
      rw [hE] at hr
      by_cases h0 : (verifyS L).trap = 0
      · exact vsOkF_w0 rfl (verify_okK (c := c) hL h0 (K := 3) (by decide)) hr hb
      · exact vsTrF_w0 rfl (verify_trK (c := c) hL h0 (K := 3) (by decide)) hr hb
  · exact vsErr_w0 (and_yes (by simpa using hL) rfl) (verify_err hL) hr hb
theorem verifySound_nil (s : ByteArray) (x : BitVec 64) : Ok 6 [.c nilSl, .c (.s s), .c (.u x)] (.c (.b true)) :=
  vsNil_w0 rfl verify_nil (run_nil s x) verifyBegun_ok
end Go.Proofs.Ytkigmocchaikgab
