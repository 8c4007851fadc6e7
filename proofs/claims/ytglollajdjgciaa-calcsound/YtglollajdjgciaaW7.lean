/- The contract of math/bits.Len64: the number of bits that a number wants. -/
import Derived.Test.YtglollajdjgciaaW1
import Derived.Lib.BitFns
namespace Go.Proofs.Ytglollajdjgciaa
open Go.RowKit

theorem tab_get (n : Nat) (h : n < Lib.len8tab.size) : ((Lib.len8tab[n]'h).toNat : Int) = Lib.bitLen n := by
  have hn : n < 256 := by have := Lib.len8tab_size; omega
  have e := Lib.len8_eq ⟨n, hn⟩
  simp only [Lib.len8, Int.toNat_natCast] at e
  rw [← e, getElem?_pos Lib.len8tab n h]; rfl

/- a byte b of x that lies s bits up, the highest that is not 0 -/
theorem len_at1 (x : Int) (s d : Nat) (b : Int) (hx0 : 0 ≤ x)  (hd : d = 2 ^ s) (hb : b = x / d) : b.toNat = x.toNat / 2 ^ s := by
  rw [hb, ← hd]
  obtain ⟨X, rfl⟩ := Int.eq_ofNat_of_zero_le hx0
  rw [← Int.natCast_ediv, Int.toNat_natCast, Int.toNat_natCast]
theorem len_at2 (x : Int) (s d : Nat) (b : Int) (hx0 : 0 ≤ x) (hx : x ≤ 18446744073709551615) (hd : d = 2 ^ s)
    (hbn : b.toNat = x.toNat / 2 ^ s) (hlow : s = 0 ∨ (d : Int) ≤ x) : Lib.bitLen x.toNat = s + Lib.bitLen b.toNat := by
  rcases hlow with h0 | h1
  · rw [hbn, h0, Nat.pow_zero, Nat.div_one, Nat.zero_add]
  · rw [hbn]
    exact Lib.bitLen_shift s x.toNat (by rw [← hd]; omega) (by omega)
theorem len_at3 (s q : Nat) (hs : s ≤ 56) (l8 : q ≤ 8) : wrap64 (s + wrap64 q) = ((s + q : Nat) : Int) := by
  unfold wrap64
  omega
theorem len_at (x : Int) (s d : Nat) (b t : Int) (hx0 : 0 ≤ x) (hx : x ≤ 18446744073709551615) (hd : d = 2 ^ s) (hs : s ≤ 56)
    (hb : b = x / d) (hb0 : 0 ≤ b) (hb8 : b ≤ 255) (hlow : s = 0 ∨ (d : Int) ≤ x) (ht : t = (Lib.bitLen b.toNat : Int)) : wrap64 (s + wrap64 t) = (Lib.bitLen x.toNat : Int) := by
  rw [ht, len_at3 s _ hs (Lib.bitLen_le8' b hb0 hb8), len_at2 x s d b hx0 hx hd (len_at1 x s d b hx0 hd hb) hlow]

set_option maxRecDepth 100000 in
set_option maxHeartbeats 4000000 in
theorem len64_any (x : Int) (w : World) (h0 : 0 ≤ x) (h1 : x ≤ 18446744073709551615) :
    Calls Try.prog 72 #[.int .u64 x] w fun e w' => e = .returned (N (Lib.bitLen x.toNat)) ∧ w = w' := by
  have hsz := Lib.len8tab_size
  go_enter Try.func72, Try.ntmps72
  go_wp2
  all_goals go_ret
  all_goals refine ⟨congrArg Ending.returned (congrArg (Value.int IntKind.i64) ?_), rfl⟩
  · exact len_at x 56 72057594037927936 _ _ h0 h1 (by decide) (by omega) (by omega) (by omega) (by omega) (by omega) (tab_get _ _)
  · exact len_at x 48 281474976710656 _ _ h0 h1 (by decide) (by omega) (by omega) (by omega) (by omega) (by omega) (tab_get _ _)
  · exact len_at x 40 1099511627776 _ _ h0 h1 (by decide) (by omega) (by omega) (by omega) (by omega) (by omega) (tab_get _ _)
  · exact len_at x 32 4294967296 _ _ h0 h1 (by decide) (by omega) (by omega) (by omega) (by omega) (by omega) (tab_get _ _)
  · exact len_at x 24 16777216 _ _ h0 h1 (by decide) (by omega) (by omega) (by omega) (by omega) (by omega) (tab_get _ _)
  · exact len_at x 16 65536 _ _ h0 h1 (by decide) (by omega) (by omega) (by omega) (by omega) (by omega) (tab_get _ _)
  · exact len_at x 8 256 _ _ h0 h1 (by decide) (by omega) (by omega) (by omega) (by omega) (by omega) (tab_get _ _)
  · have := len_at x 0 1 x _ h0 h1 (by decide) (by omega) (by omega) (by omega) (by omega) (by omega) (tab_get x.toNat (by omega))
    simpa using this
end Go.Proofs.Ytglollajdjgciaa
