/-
  The contract of the reference's Gcd.
-/
import Derived.Test.YtdifilndpilboaaAlgE
import Derived.WalkKit
import Derived.WalkSpells
import Derived.WalkLawsBesides
import Derived.BigQuiet
import Derived.BigRegion
import Derived.Deep.QuietTactic
import Derived.Deep.LoopGhost
import Derived.Deep.DeepCutAuto
import Derived.Lib.Hide
namespace Go.Proofs.Ytdifilndpilboaa
open Go.RowKit

/-- the greatest common divisor, as a number of Go -/
def gcdI (a b : Int) : Int := (Int.gcd a b : Int)

theorem gcdI_zero (a : Int) (h : 0 ≤ a) : gcdI a 0 = a := by
  unfold gcdI
  rw [Int.gcd_zero_right]
  omega

theorem gcdI_step (a b : Int) (h0 : 0 ≤ a) (h1 : 1 ≤ b) : gcdI b (a % b) = gcdI a b := by
  unfold gcdI
  obtain ⟨x, rfl⟩ := Int.eq_ofNat_of_zero_le h0
  obtain ⟨y, rfl⟩ := Int.eq_ofNat_of_zero_le (show 0 ≤ b by omega)
  rw [← Int.natCast_emod]
  simp only [Int.gcd_natCast_natCast]
  rw [Nat.gcd_comm y, ← Nat.gcd_rec, Nat.gcd_comm]

/-- the two numbers of Gcd's loop -/
def GState (a b : Int) (w : World) (m : Nat) (va vb : Value) (wx : World) : Prop := ∃ x y : Int, va = .int .i64 x ∧ vb = .int .i64 y ∧ 0 ≤ x ∧ x ≤ 4000000 ∧ 0 ≤ y ∧ y ≤ 4000000 ∧ y.toNat < m ∧ gcdI x y = gcdI a b ∧ Below w.heap.size w wx

set_option maxHeartbeats 1600000 in
theorem refGcd_any (a b d : Int) (w : World) (ha : 0 ≤ a) (hb : 0 ≤ b) (ha2 : a ≤ 4000000) (hb2 : b ≤ 4000000) (hd : Hid (gcdI a b = d)) :
    Calls Try.prog 119 #[.int .i64 a, .int .i64 b] w fun e w' => e = .returned (.int .i64 d) ∧ Below w.heap.size w w' := by
  go_enter Try.func119, Try.ntmps119
  go_wp2_with fail
  go_loopg [0, 1] (b.toNat + 1) (fun m va vb wr => GState a b w m va vb wr)
  case atStart => exact ⟨a, b, rfl, rfl, ha, ha2, hb, hb2, by omega, rfl, Below.refl _ _⟩
  case round =>
    obtain ⟨x, y, rfl, rfl, x0, x1, y0, y1, hm, hg, hB⟩ := hrel
    have HM := Lib.hid hm
    have HB := Lib.hid hB
    have HG := Lib.hid hg
    clear hm hg hB
    by_cases hz : y = 0
    · subst hz
      have hz' : ((0 : Int) != 0) = false := by decide
      go_wp2_with fail
      go_ret
      refine ⟨?_, ?_⟩
      · rw [show d = x by rw [← hd.out, ← HG.out, gcdI_zero x x0]]
        rfl
      · exact HB.out
    · have hz' : (y != 0) = true := by simp [hz]
      have hy : 1 ≤ y := by omega
      have t1 := Int.emod_lt_of_pos x (show 0 < y by omega)
      have t2 := Int.emod_nonneg x (show y ≠ 0 by omega)
      have G := Lib.hid (gcdI_step x y x0 hy)
      go_wp2_with fail
      go_region
      go_wp2_with fail
      go_roundg y.toNat
      case measure => exact HM.out
      case rel => exact ⟨y, x % y, rfl, rfl, by omega, by omega, by omega, by omega, by omega, G.out.trans HG.out, by repeat (first | exact HB.out | refine Below.drew ?_)⟩
end Go.Proofs.Ytdifilndpilboaa
