/- A region that draws its order, walked once, in the order of the text, over a class of worlds: the library's law, for the worlds in which a call's own blocks are kept. -/
import Derived.Test.YtglollajdjgciaaBox
import Derived.BigQuiet
namespace Go.Proofs.Ytglollajdjgciaa
open Go.RowKit

theorem region_class (C : World → Prop) {P : Program} {id : Nat} {Q : Exit → Act → World → Prop} {a : Act} {w : World} {l : List Oper} (hm : P.follows .mixedOrders = true) (hB : Region.lexB .any l.toArray = true)
    (hC : C w.drew) (h : wpQuiet P l.toArray C (fun a' => ∀ w', C w' → Q .normal a' w') l a) : (Code.region id l.toArray true).wp P Q a w :=
  wp_region_quiet (C := C) hm hB hC (by simpa using h)
structure Cl (w0 : World) (L : List (Nat × List Value)) where
  val : World
  kp : Kp w0 val L
theorem Cl.of {P : Program} {f : FuncId} {args : Array Value} {w0 : World} {L : List (Nat × List Value)} {n : Cl w0 L} {v : Value}
    (h : Calls P f args n.val fun e w' => e = .returned v ∧ Below n.val.heap.size n.val w') : Calls P f args n.val fun e w'' => e = .returned v ∧ ∃ m : Cl w0 L, w'' = m.val :=
  h.mono fun _ _ ⟨he, hb⟩ => ⟨he, ⟨⟨_, n.kp.keep hb⟩, rfl⟩⟩
theorem Cl.start {w0 w : World} {L : List (Nat × List Value)} (h : Kp w0 w L) : ∃ n : Cl w0 L, w.drew = n.val := ⟨⟨_, h.keep (Below.drew (Below.refl _ _))⟩, rfl⟩
theorem Cl.some {w0 w : World} {L : List (Nat × List Value)} (h : Kp w0 w L) : Nonempty (Cl w0 L) := ⟨⟨_, h⟩⟩

end Go.Proofs.Ytglollajdjgciaa
