/-
  The contracts of span.Position, span.Has, span.Nth and span.Of, for all ints.
-/
import Derived.Test.YtdifilndpilboaaSpanC
import Derived.WalkKit
import Derived.WalkSpells
import Derived.WalkLawsBesides
import Derived.Lib.Hide
namespace Go.Proofs.Ytdifilndpilboaa
open Go.RowKit

theorem chk_bounds {l h s : Int} (hk : chk l h s = 0) : -1000000 ≤ l ∧ l ≤ 1000000 ∧ -1000000 ≤ h ∧ h ≤ 1000000 ∧ -2000000 ≤ s ∧ s ≤ 2000000 ∧ 1 ≤ magA s ∧ magA s ≤ 2000000 := by
  rcases chk_zero hk with ⟨rfl, rfl, rfl⟩ | ⟨a1, a2, a3, a4, a5, a6, a7, a8, _⟩
  · decide
  · omega

theorem quo_bd (a b : Int) (h : 0 ≤ a) (hb : 1 ≤ b) : 0 ≤ a / b ∧ a / b ≤ a := IntWalk.tdiv_le a b h hb

/-- whether a number is in a range -/
def posB (l h s n : Int) : Bool := decide (chk l h s = 0 ∧ l ≤ n ∧ n ≤ h ∧ (n - l) % magA s = 0)
/-- its position -/
def posN (l h s n : Int) : Int := if posB l h s n = true then (if s < 0 then (h - n) / magA s else (n - l) / magA s) else 0

set_option maxHeartbeats 400000 in
theorem pos_no (l h s n : Int) (w : World) (hl : I64 l) (hh : I64 h) (hs : I64 s) (_hn : I64 n) (hp : posB l h s n = false) :
    Calls Try.prog 19 #[.agg #[.int .i64 l, .int .i64 h, .int .i64 s], .int .i64 n] w fun e w' => e = .returned (.tuple #[.int .i64 0, .bool false]) ∧ Below w.heap.size w w' := by
  by_cases hk : chk l h s = 0
  · obtain ⟨b1, b2, b3, b4, b5, b6, b7, b8⟩ := chk_bounds hk
    have HK := Lib.hid hk
    have HP := Lib.hid hp
    clear hk hp
    by_cases c1 : n < l
    · go_enter Try.func19, Try.ntmps19
      go_wp2_with fail
      refine (check_ok l h s _ hl hh hs HK).mono ?_
      rintro e w1 ⟨rfl, hb1⟩
      obtain ⟨W1, s1, x0, x1, x2⟩ := box3 hb1
      clear hb1
      go_wp2
      go_ret2
      exact ⟨rfl, W1.out⟩
    · by_cases c2 : h < n
      · go_enter Try.func19, Try.ntmps19
        go_wp2_with fail
        refine (check_ok l h s _ hl hh hs HK).mono ?_
        rintro e w1 ⟨rfl, hb1⟩
        obtain ⟨W1, s1, x0, x1, x2⟩ := box3 hb1
        clear hb1
        go_wp2
        go_ret2
        exact ⟨rfl, W1.out⟩
      · have c3 : ((n - l) % magA s != 0) = true := by
          have := HP.out
          simp only [posB, decide_eq_false_iff_not] at this
          simp only [bne_iff_ne, ne_eq]
          exact fun c => this ⟨HK.out, by omega, by omega, c⟩
        go_enter Try.func19, Try.ntmps19
        go_wp2_with fail
        refine (check_ok l h s _ hl hh hs HK).mono ?_
        rintro e w1 ⟨rfl, hb1⟩
        obtain ⟨W1, s1, x0, x1, x2⟩ := box3 hb1
        clear hb1
        go_wp2_with fail
        refine (open_any _ _ _ _ (by omega) (by omega)).mono ?_
        rintro e w2 ⟨rfl, hb2⟩
        have W2 := hidTrans W1 hb2 (by omega)
        have s2 := hb2.size
        clear hb2 W1 x0 x1 x2
        go_wp2
        go_ret2
        exact ⟨rfl, W2.out.alloc (by omega) _⟩
  · have hn : (chk l h s != 0) = true := by simp [hk]
    clear hk hp
    go_enter Try.func19, Try.ntmps19
    go_wp2_with fail
    refine (check64 l h s _ hl hh hs).mono ?_
    rintro e w1 ⟨rfl, hb1⟩
    obtain ⟨W1, s1, x0, x1, x2⟩ := box3 hb1
    clear hb1
    go_wp2
    go_ret2
    exact ⟨rfl, W1.out⟩

set_option maxHeartbeats 400000 in
theorem pos_yes (l h s n : Int) (w : World) (hp : posB l h s n = true) :
    Calls Try.prog 19 #[.agg #[.int .i64 l, .int .i64 h, .int .i64 s], .int .i64 n] w fun e w' => e = .returned (.tuple #[.int .i64 (posN l h s n), .bool true]) ∧ Below w.heap.size w w' := by
  have HP := Lib.hid hp
  simp only [posB, decide_eq_true_eq] at hp
  obtain ⟨hk, a1, a2, a3⟩ := hp
  obtain ⟨b1, b2, b3, b4, b5, b6, b7, b8⟩ := chk_bounds hk
  have HK := Lib.hid hk
  have c3 : ((n - l) % magA s != 0) = false := by simp [a3]
  have q1 := quo_bd (h - n) (magA s) (by omega) b7
  have q2 := quo_bd (n - l) (magA s) (by omega) b7
  clear hk a3
  by_cases c4 : s < 0
  · have E := Lib.hid (show posN l h s n = (h - n) / magA s by unfold posN; rw [if_pos HP.out, if_pos c4])
    have c5 : decide (s < 0) = true := by simp [c4]
    go_enter Try.func19, Try.ntmps19
    go_wp2_with fail
    refine (check_ok l h s _ ⟨by omega, by omega⟩ ⟨by omega, by omega⟩ ⟨by omega, by omega⟩ HK).mono ?_
    rintro e w1 ⟨rfl, hb1⟩
    obtain ⟨W1, s1, x0, x1, x2⟩ := box3 hb1
    clear hb1
    go_wp2_with fail
    refine (open_any _ _ _ _ (by omega) (by omega)).mono ?_
    rintro e w2 ⟨rfl, hb2⟩
    have W2 := hidTrans W1 hb2 (by omega)
    have s2 := hb2.size
    clear hb2 W1 x0 x1 x2
    go_wp2
    go_ret2
    exact ⟨by rw [E.out]; rfl, W2.out.alloc (by omega) _⟩
  · have E := Lib.hid (show posN l h s n = (n - l) / magA s by unfold posN; rw [if_pos HP.out, if_neg c4])
    have c5 : decide (s < 0) = false := by simp; omega
    go_enter Try.func19, Try.ntmps19
    go_wp2_with fail
    refine (check_ok l h s _ ⟨by omega, by omega⟩ ⟨by omega, by omega⟩ ⟨by omega, by omega⟩ HK).mono ?_
    rintro e w1 ⟨rfl, hb1⟩
    obtain ⟨W1, s1, x0, x1, x2⟩ := box3 hb1
    clear hb1
    go_wp2_with fail
    refine (open_any _ _ _ _ (by omega) (by omega)).mono ?_
    rintro e w2 ⟨rfl, hb2⟩
    have W2 := hidTrans W1 hb2 (by omega)
    have s2 := hb2.size
    clear hb2 W1 x0 x1 x2
    go_wp2
    go_ret2
    exact ⟨by rw [E.out]; rfl, W2.out.alloc (by omega) _⟩

theorem Position_any (l h s n : Int) (w : World) (hl : I64 l) (hh : I64 h) (hs : I64 s) (hn : I64 n) :
    Calls Try.prog 19 #[.agg #[.int .i64 l, .int .i64 h, .int .i64 s], .int .i64 n] w fun e w' => e = .returned (.tuple #[.int .i64 (posN l h s n), .bool (posB l h s n)]) ∧ Below w.heap.size w w' := by
  cases hp : posB l h s n
  · exact (pos_no l h s n w hl hh hs hn hp).mono fun _ _ ⟨he, hb⟩ => ⟨by rw [he]; unfold posN; rw [hp]; rfl, hb⟩
  · exact (pos_yes l h s n w hp).mono fun _ _ ⟨he, hb⟩ => ⟨he, hb⟩

set_option maxHeartbeats 400000 in
theorem Has_any (l h s n : Int) (w : World) (hl : I64 l) (hh : I64 h) (hs : I64 s) (hn : I64 n) :
    Calls Try.prog 25 #[.agg #[.int .i64 l, .int .i64 h, .int .i64 s], .int .i64 n] w fun e w' => e = .returned (.bool (posB l h s n)) ∧ Below w.heap.size w w' := by
  go_enter Try.func25, Try.ntmps25
  go_wp2_with fail
  refine (Position_any l h s n _ hl hh hs hn).mono ?_
  rintro e w1 ⟨rfl, hb1⟩
  obtain ⟨W1, s1, x0, x1, x2⟩ := box3 hb1
  clear hb1
  go_wp2
  go_ret
  exact ⟨rfl, W1.out⟩
end Go.Proofs.Ytdifilndpilboaa
