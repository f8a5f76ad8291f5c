/-
  The contracts of span.euclid and span.modulo.
-/
import Derived.Test.YtdifilndpilboaaAlgM
import Derived.WalkKit
import Derived.WalkSpells
import Derived.WalkLawsBesides
import Derived.BigQuiet
import Derived.BigRegion
import Derived.Deep.QuietTactic
import Derived.Deep.LoopGhost
import Derived.Deep.DeepCutAuto
import Derived.Lib.Hide
namespace Go.Proofs.Ytdifilndpilboaa
open Go.RowKit

theorem mod_spell (a n : Int) (hn : 1 ≤ n) : -n < a.tmod n ∧ a.tmod n < n ∧ (a.tmod n + n) % n = a % n := by
  have h1 := Int.lt_tmod_of_pos a (show 0 < n by omega)
  have h2 := Int.tmod_lt_of_pos a (show 0 < n by omega)
  refine ⟨h1, h2, ?_⟩
  have e := Int.tmod_add_mul_tdiv a n
  have e1 : a % n = (a.tmod n + n * a.tdiv n) % n := congrArg (· % n) e.symm
  rw [e1, Int.add_mul_emod_self_left, Int.add_emod_right]

set_option maxHeartbeats 400000 in
theorem modulo_any (a n : Int) (w : World) (hn : 1 ≤ n) (h2 : n ≤ 4000000000000) :
    Calls Try.prog 149 #[.int .i64 a, .int .i64 n] w fun e w' => e = .returned (.int .i64 (a % n)) ∧ w = w' := by
  obtain ⟨m1, m2, m3⟩ := mod_spell a n hn
  have E := Lib.hid m3
  have hz : ¬ n = 0 := by omega
  clear m3
  go_enter Try.func149, Try.ntmps149
  go_wp2
  go_ret
  exact ⟨by rw [← E.out]; rfl, rfl⟩

/-- what euclid returns -/
def GcdRet (a b : Int) (w : World) : Ending → World → Prop := fun e w' => ∃ d x : Int, Gcd a b d x ∧ e = .returned (.tuple #[.int .i64 d, .int .i64 x]) ∧ Below w.heap.size w w'

theorem arrayAt_two (b o n c : Nat) (hn : 2 ≤ n) : ∀ w : World, (Instr.arrayAt 87 (.slice (some ⟨b, o, none⟩) n c)).run Try.prog w = .ok (.pointer (some ⟨b, o, none⟩)) w := by
  intro w
  have h2 : ¬ n < 2 := by omega
  simp [Instr.arrayAt, go_sem, h2]

/-- the two pairs of euclid's loop, in blocks of the call's own -/
def EuWorld (a b : Int) (w : World) (g k : Nat) (m : Nat) (wx : World) : Prop := ∃ r0 x0 r1 x1 : Int, EInv a b r0 x0 r1 x1 ∧ r1.toNat < m ∧ Below w.heap.size w wx ∧ g < wx.heap.size ∧ k < wx.heap.size ∧
  wx.cell? ⟨g, 0, none⟩ = some (.int .i64 r0) ∧ wx.cell? ⟨g, 1, none⟩ = some (.int .i64 x0) ∧ wx.cell? ⟨k, 0, none⟩ = some (.int .i64 r1) ∧ wx.cell? ⟨k, 1, none⟩ = some (.int .i64 x1) ∧
  wx.frozen? ⟨g, 0, none⟩ = false ∧ wx.frozen? ⟨g, 1, none⟩ = false ∧ wx.frozen? ⟨k, 0, none⟩ = false ∧ wx.frozen? ⟨k, 1, none⟩ = false

set_option maxHeartbeats 1600000 in
theorem euclid_any (a b : Int) (w : World) (ha : 0 ≤ a) (hb : 0 ≤ b) (ha2 : a ≤ 4000000) (hb2 : b ≤ 4000000) : Calls Try.prog 123 #[.int .i64 a, .int .i64 b] w (GcdRet a b w) := by
  have hA1 := arrayAt_two w.heap.size 0 2 4 (by omega)
  have hA2 := arrayAt_two w.heap.size 2 2 2 (by omega)
  go_enter Try.func123, Try.ntmps123
  go_upto_region 2 with fail
  go_cut [7, 8] (fun s7 s8 wx => ∃ g k : Nat, g ≠ k ∧ w.heap.size ≤ g ∧ w.heap.size ≤ k ∧ s7 = .pointer (some ⟨g, 0, none⟩) ∧ s8 = .pointer (some ⟨k, 0, none⟩) ∧ EuWorld a b w g k (a.toNat + b.toNat + 1) wx)
  case first =>
    go_region
    · go_wp2_with fail
      go_meet
      exact ⟨w.heap.size + 1, w.heap.size + 1 + 1, by omega, by omega, by omega, rfl, rfl, a, 1, b, 0, EInv.start a b ha hb ha2 hb2, by omega, by repeat (first | exact Below.refl _ _ | refine Below.alloc ?_ (by simp; try omega) _ | refine Below.drew ?_), by simp <;> omega, by simp <;> omega, by simp [go_sem], by simp [go_sem], by simp [go_sem], by simp [go_sem], by simp [go_sem], by simp [go_sem], by simp [go_sem], by simp [go_sem]⟩
    · go_wp2_with fail
      go_meet
      exact ⟨w.heap.size + 1 + 1, w.heap.size + 1, by omega, by omega, by omega, rfl, rfl, a, 1, b, 0, EInv.start a b ha hb ha2 hb2, by omega, by repeat (first | exact Below.refl _ _ | refine Below.alloc ?_ (by simp; try omega) _ | refine Below.drew ?_), by simp <;> omega, by simp <;> omega, by simp [go_sem], by simp [go_sem], by simp [go_sem], by simp [go_sem], by simp [go_sem], by simp [go_sem], by simp [go_sem], by simp [go_sem]⟩
  case rest =>
    obtain ⟨g, k, hgk, hg, hk, rfl, rfl, hE⟩ := hcut
    have HE := Lib.hid hE
    clear hE hA1 hA2
    go_wp2_with fail
    go_loopg [9] (a.toNat + b.toNat + 1) (fun m _ wr => EuWorld a b w g k m wr)
    case atStart => exact HE.out
    case round =>
      obtain ⟨r0, x0, r1, x1, hI, hm, hB, hgs, hks, c0, c1, d0, d1, f0, f1, f2, f3⟩ := hrel
      have HI := Lib.hid hI
      have HM := Lib.hid hm
      have HB := Lib.hid hB
      have n0 := hI.n0
      have n1 := hI.n1
      have m0 := hI.m0
      have m1 := hI.m1
      have xb := hI.x_bd
      clear hI hm hB HE
      by_cases hz : r1 = 0
      · subst hz
        have hz' : ((0 : Int) != 0) = false := by decide
        go_wp2_with fail
        go_quiet (fail)
        go_wp2
        exact bodyPost_ret (v := .tuple #[.int .i64 r0, .int .i64 x0]) (by simp [results, Try.results123, go_sem, *]) rfl ⟨r0, x0, HI.out.done, rfl, below_drewN HB.out _⟩
      · have hz' : (r1 != 0) = true := by simp [hz]
        obtain ⟨q1, q2, q3, q4, q5, q6⟩ := HI.out.q_bd hb2 hz
        have hr1 : 1 ≤ r1 := by omega
        have k1 : IntKind.i64.wrap (r0 / r1 * r1) = r0 / r1 * r1 := IntWalk.i64_in _ (by omega)
        have k2 : IntKind.i64.wrap (r0 - r0 / r1 * r1) = r0 - r0 / r1 * r1 := IntWalk.i64_in _ (by omega)
        have k3 : IntKind.i64.wrap (r0 / r1 * x1) = r0 / r1 * x1 := IntWalk.i64_in _ (by omega)
        have k4 : IntKind.i64.wrap (x0 - r0 / r1 * x1) = x0 - r0 / r1 * x1 := IntWalk.i64_in _ (by omega)
        go_wp2_with fail
        go_region
        clear k1 k2 k3 k4
        go_wp2_with fail
        obtain ⟨S1, S2⟩ := HI.out.step hb2 hz
        go_roundg r1.toNat
        case measure => exact HM.out
        case rel =>
          refine ⟨r1, x1, r0 - r0 / r1 * r1, x0 - r0 / r1 * x1, S1, by have := S1.n1; omega, ?_, by simp [World.setCell]; exact hgs, by simp [World.setCell]; exact hks, ?_, ?_, ?_, ?_, ?_, ?_, ?_, ?_⟩
          · exact (((((HB.out.drew).setCell (by simpa using hg) _).setCell (by simpa using hg) _).setCell (by simpa using hk) _).setCell (by simpa using hk) _)
          all_goals simp [go_sem, *]
end Go.Proofs.Ytdifilndpilboaa
