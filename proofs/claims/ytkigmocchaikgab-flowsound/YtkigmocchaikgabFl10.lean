import Derived.Test.YtkigmocchaikgabFl6
/- Small contracts, said again. -/
namespace Go.Proofs.Ytkigmocchaikgab
open Go.RowKit

theorem has_eq {t : St} {m : Mach} {b : Bool} (h : t.has m = b) : Ok 20 [.ag t.cs, .ag m.cs] (.c (.b b)) := h ▸ fhas_ok t m
theorem check_Ok {t : St} (h : t.Ok) : Ok 17 [.ag t.cs] (.c (.i 0)) := by
  have := fcheck_ok t
  rwa [St.ok_iff.2 h] at this
theorem joinR_ok {t u : St} (ht : t.Ok) (hu : u.Ok) : Ok 13 [.ag t.cs, .ag u.cs] (.tu [.ag (t.join u).cs, .c (.i 0)]) := by
  have := fjoin_ok t u
  unfold joinA joinE at this
  have ab : (t.ok && u.ok) = true := and_yes (St.ok_iff.2 ht) (St.ok_iff.2 hu)
  rwa [if_pos ab, if_pos ab] at this
theorem joinZ_ok {t u : St} (h : (t.ok && u.ok) = false) : Ok 13 [.ag t.cs, .ag u.cs] (.tu [.ag St.z.cs, .c (.i 1)]) := by
  have := fjoin_ok t u
  unfold joinA joinE at this
  rwa [h] at this
theorem fin_ne {x k : Int} (h : x ≠ k) : (!x == k) = true := by simpa using h
theorem fin_is {x k : Int} (h : x = k) : (x == k) = true := by simpa using h
theorem trues {b : Bool} (h : b = true) : (⟨.c (.b b), [], none⟩ : Eff) = ⟨.c (.b true), [], none⟩ := by rw [h]
end Go.Proofs.Ytkigmocchaikgab
