/-
  Part 2: RefA, RefB.
-/
import Derived.Test.YtabgphlpdoockaaDo1
import Derived.BigQuiet
import Derived.Deep.DeepCutAuto
import Derived.Deep.DrawnRows
import Derived.Deep.QuietTactic
import Derived.Deep.RegionHeld3
import Derived.Deep.RegionWith
import Derived.Lib.Hide
import Derived.WalkKit
import Derived.WalkLawsBesides
import Derived.WalkSpells
namespace Go.Proofs.Ytabgphlpdoockaa
open Go.RowKit
theorem within_yes (n : Int) (w : World) (h1 : -1000000 ≤ n) (h2 : n ≤ 1000000) :
    Calls Try.prog 106 #[.int .i64 n] w fun e w' => e = .returned (.bool true) ∧ w = w' := by
  go_enter Try.func106, Try.ntmps106
  go_wp2
  go_ret
  exact ⟨rfl, rfl⟩
theorem within_no (n : Int) (w : World) (h : ¬ (-1000000 ≤ n ∧ n ≤ 1000000)) :
    Calls Try.prog 106 #[.int .i64 n] w fun e w' => e = .returned (.bool false) ∧ w = w' := by
  by_cases h1 : -1000000 ≤ n
  · have h2 : ¬ n ≤ 1000000 := fun h2 => h ⟨h1, h2⟩
    clear h
    go_enter Try.func106, Try.ntmps106
    go_wp2
    go_ret
    exact ⟨rfl, rfl⟩
  · clear h
    go_enter Try.func106, Try.ntmps106
    go_wp2
    go_ret
    exact ⟨rfl, rfl⟩
theorem refEmpty_any (w : World) :
    Calls Try.prog 107 #[] w fun e w' => e = .returned (.agg #[.int .i64 1, .int .i64 0, .int .i64 1]) ∧ w.alloc (.cells #[.int .i64 1, .int .i64 0, .int .i64 1] 23) = w' := by
  go_enter Try.func107, Try.ntmps107
  go_wp2
  exact bodyPost_ret (v := .agg #[.int .i64 1, .int .i64 0, .int .i64 1]) (by simp [results, Try.results107, go_sem]) rfl ⟨rfl, rfl⟩
set_option maxHeartbeats 400000 in
theorem refStep_any (l h s : Int) (w : World) (h1 : -9223372036854775807 ≤ s) (h2 : s ≤ 9223372036854775807) :
    Calls Try.prog 112 #[.agg #[.int .i64 l, .int .i64 h, .int .i64 s]] w fun e w' => e = .returned (.int .i64 (magA s)) ∧ Below w.heap.size w w' := by
  by_cases c1 : s < 0
  · have E := Lib.hid (magA_neg c1)
    go_enter Try.func112, Try.ntmps112
    go_wp2
    go_ret
    refine ⟨by rw [E.out]; rfl, ?_⟩
    repeat (first | exact Below.refl _ _ | refine Below.alloc ?_ (by simp; try omega) _)
  · have E := Lib.hid (magA_pos (show 0 ≤ s by omega))
    go_enter Try.func112, Try.ntmps112
    go_wp2
    go_ret
    refine ⟨by rw [E.out]; rfl, ?_⟩
    repeat (first | exact Below.refl _ _ | refine Below.alloc ?_ (by simp; try omega) _)
set_option maxHeartbeats 400000 in
theorem refIsEmpty_any (l h s : Int) (w : World) :
    Calls Try.prog 115 #[.agg #[.int .i64 l, .int .i64 h, .int .i64 s]] w fun e w' => e = .returned (.bool (reqB l h s 1 0 1)) ∧ Below w.heap.size w w' := by
  have hq := eq_range l h s 1 0 1
  go_enter Try.func115, Try.ntmps115
  go_wp2_with fail
  go_region_held3 (fun w' => w'.cell? ⟨w.heap.size, 0, none⟩ = some (.int .i64 l) ∧ w'.cell? ⟨w.heap.size, 1, none⟩ = some (.int .i64 h) ∧ w'.cell? ⟨w.heap.size, 2, none⟩ = some (.int .i64 s)) (go_keep) (first | (go_at_call 107; refine (refEmpty_any _).mono ?_; rintro e w' ⟨rfl, rfl⟩))
  clear hq
  go_wp2
  go_ret
  refine ⟨rfl, ?_⟩
  repeat (first | exact Below.refl _ _ | refine Below.alloc ?_ (by simp; try omega) _ | refine Below.drew ?_)
theorem neg_mod (a m : Int) (hm : 1 ≤ m) (h : ¬ (-a) % m = 0) : m - (-a) % m = a % m := by
  have h1 := Int.mul_ediv_add_emod (-a) m
  have h2 := Int.emod_nonneg (-a) (show m ≠ 0 by omega)
  have h3 := Int.emod_lt_of_pos (-a) (show 0 < m by omega)
  have h4 : a = (m - (-a) % m) + m * (-((-a) / m) - 1) := by
    rw [Int.mul_sub, Int.mul_neg]; omega
  have h5 : ((m - (-a) % m) + m * (-((-a) / m) - 1)) % m = (m - (-a) % m) % m := Int.add_mul_emod_self_left _ _ _
  have h6 : (m - (-a) % m) % m = m - (-a) % m := Int.emod_eq_of_lt (by omega) (by omega)
  exact ((congrArg (· % m) h4).trans (h5.trans h6)).symm
theorem neg_mod0 (a m : Int) (h : (-a) % m = 0) : a % m = 0 := by
  have := Int.dvd_of_emod_eq_zero h
  exact Int.emod_eq_zero_of_dvd (Int.dvd_neg.1 this)
theorem magA_mod (a b : Int) : a % magA b = a % b := by
  unfold magA; split
  · rw [Int.emod_neg]
  · rfl
theorem u64_mag (b : Int) (h1 : -9223372036854775808 ≤ b) (h2 : b < 0) : IntKind.u64.wrap (-IntKind.u64.wrap b) = magA b := by rw [u64_neg b h1 h2, magA_neg h2]
set_option maxHeartbeats 400000 in
theorem mod_neg (a b : Int) (w : World) (ha : I64 a) (hb : I64 b) (c : b < 0) :
    Calls Try.prog 116 #[.int .i64 a, .int .i64 b] w fun e w' => e = .returned (.int .u64 (a % b)) ∧ w = w' := by
  have m0 := u64_mag b hb.1 c
  have m1 : 1 ≤ magA b := by unfold magA; split <;> omega
  have m2 : magA b ≤ 9223372036854775808 := by have := hb.1; unfold magA; split <;> omega
  have hb1 := hb.1
  have ha1 := ha.1
  have ha2 := ha.2
  clear ha hb
  by_cases c1 : a < 0
  · have n0 := u64_mag a ha1 c1
    have n1 : 1 ≤ magA a := by unfold magA; split <;> omega
    have n2 : magA a ≤ 9223372036854775808 := by unfold magA; split <;> omega
    have na := Lib.hid (magA_neg c1)
    by_cases c2 : magA a % magA b = 0
    · have E := Lib.hid (show a % b = 0 by rw [← magA_mod]; exact neg_mod0 a _ (by rw [← na.out]; exact c2))
      have c3 : (magA a % magA b == 0) = true := by simp [c2]
      clear c2
      go_enter Try.func116, Try.ntmps116
      go_wp2
      go_ret
      exact ⟨by rw [E.out]; rfl, rfl⟩
    · have E := Lib.hid (show a % b = magA b - magA a % magA b by rw [← magA_mod, ← neg_mod a (magA b) m1 (by rw [← na.out]; exact c2), na.out])
      have c3 : (magA a % magA b == 0) = false := by simp [c2]
      have r := Int.emod_lt_of_pos (magA a) (show 0 < magA b by omega)
      have r0 := Int.emod_nonneg (magA a) (show magA b ≠ 0 by omega)
      clear c2
      go_enter Try.func116, Try.ntmps116
      go_wp2
      go_ret
      exact ⟨by rw [E.out]; rfl, rfl⟩
  · have E := Lib.hid (magA_mod a b)
    go_enter Try.func116, Try.ntmps116
    go_wp2
    go_ret
    exact ⟨by rw [← E.out]; rfl, rfl⟩
set_option maxHeartbeats 400000 in
theorem mod_pos (a b : Int) (w : World) (ha : I64 a) (hb : I64 b) (c : 0 < b) :
    Calls Try.prog 116 #[.int .i64 a, .int .i64 b] w fun e w' => e = .returned (.int .u64 (a % b)) ∧ w = w' := by
  have hb1 := hb.2
  have ha1 := ha.1
  have ha2 := ha.2
  clear ha hb
  by_cases c1 : a < 0
  · have n0 := u64_mag a ha1 c1
    have n1 : 1 ≤ magA a := by unfold magA; split <;> omega
    have n2 : magA a ≤ 9223372036854775808 := by unfold magA; split <;> omega
    have na := Lib.hid (magA_neg c1)
    by_cases c2 : magA a % b = 0
    · have E := Lib.hid (show a % b = 0 from neg_mod0 a _ (by rw [← na.out]; exact c2))
      have c3 : (magA a % b == 0) = true := by simp [c2]
      clear c2
      go_enter Try.func116, Try.ntmps116
      go_wp2
      go_ret
      exact ⟨by rw [E.out]; rfl, rfl⟩
    · have E := Lib.hid (show a % b = b - magA a % b by rw [← neg_mod a b (by omega) (by rw [← na.out]; exact c2), na.out])
      have c3 : (magA a % b == 0) = false := by simp [c2]
      have r := Int.emod_lt_of_pos (magA a) c
      have r0 := Int.emod_nonneg (magA a) (show b ≠ 0 by omega)
      clear c2
      go_enter Try.func116, Try.ntmps116
      go_wp2
      go_ret
      exact ⟨by rw [E.out]; rfl, rfl⟩
  · go_enter Try.func116, Try.ntmps116
    go_wp2
    go_ret
    exact ⟨rfl, rfl⟩
theorem mod_any (a b : Int) (w : World) (ha : I64 a) (hb : I64 b) (c : b ≠ 0) :
    Calls Try.prog 116 #[.int .i64 a, .int .i64 b] w fun e w' => e = .returned (.int .u64 (a % b)) ∧ w = w' := by
  by_cases c1 : b < 0
  · exact mod_neg a b w ha hb c1
  · exact mod_pos a b w ha hb (by omega)
/-- the remainders differ just if the difference is no multiple -/
theorem fmd_mod (l h s : Int) (c1 : l < h) (c2 : s ≠ 0) : fmd l h s = decide (h % s = l % s) := by
  have e : ((h - l) % s = 0) ↔ (h % s = l % s) := (Int.emod_eq_emod_iff_emod_sub_eq_zero (m := h) (n := s) (k := l)).symm
  unfold fmd
  by_cases c : h % s = l % s
  · have := e.2 c; simp [c, this, c1, c2]
  · have : ¬ (h - l) % s = 0 := fun k => c (e.1 k)
    have d : ¬ l = h := by omega
    simp [c, this, d]
set_option maxHeartbeats 400000 in
theorem refCheck_empty (w : World) :
    Calls Try.prog 25 #[.agg #[.int .i64 1, .int .i64 0, .int .i64 1]] w fun e w' => e = .returned (.int .i64 0) ∧ Below w.heap.size w w' := by
  have e0 : reqB 1 0 1 1 0 1 = true := by decide
  go_enter Try.func25, Try.ntmps25
  go_wp2_with fail
  refine (refIsEmpty_any _ _ _ _).mono ?_
  rintro e w1 ⟨rfl, hb1⟩
  obtain ⟨W1, s1, x0, x1, x2⟩ := box3 hb1
  clear hb1
  go_wp2
  go_ret
  exact ⟨rfl, W1.out⟩
set_option maxHeartbeats 400000 in
theorem refCheck_over (l h s : Int) (w : World) (e0 : reqB l h s 1 0 1 = false) (c : h < l) :
    Calls Try.prog 25 #[.agg #[.int .i64 l, .int .i64 h, .int .i64 s]] w fun e w' => e = .returned (.int .i64 2) ∧ Below w.heap.size w w' := by
  go_enter Try.func25, Try.ntmps25
  go_wp2_with fail
  refine (refIsEmpty_any _ _ _ _).mono ?_
  rintro e w1 ⟨rfl, hb1⟩
  obtain ⟨W1, s1, x0, x1, x2⟩ := box3 hb1
  clear hb1
  go_wp2
  go_ret
  exact ⟨rfl, W1.out⟩
set_option maxHeartbeats 400000 in
theorem refCheck_single (l s : Int) (w : World) (c : ¬ s = 1) :
    Calls Try.prog 25 #[.agg #[.int .i64 l, .int .i64 l, .int .i64 s]] w fun e w' => e = .returned (.int .i64 2) ∧ Below w.heap.size w w' := by
  have e0 : reqB l l s 1 0 1 = false := by unfold reqB; simp; omega
  have c1 : (s != 1) = true := by simp [c]
  clear c
  go_enter Try.func25, Try.ntmps25
  go_wp2_with fail
  refine (refIsEmpty_any _ _ _ _).mono ?_
  rintro e w1 ⟨rfl, hb1⟩
  obtain ⟨W1, s1, x0, x1, x2⟩ := box3 hb1
  clear hb1
  go_wp2
  go_ret
  exact ⟨rfl, W1.out⟩
set_option maxHeartbeats 400000 in
theorem refCheck_one (l : Int) (w : World) (E : Int) (hE : Hid (E = if -1000000 ≤ l ∧ l ≤ 1000000 then 0 else 4)) :
    Calls Try.prog 25 #[.agg #[.int .i64 l, .int .i64 l, .int .i64 1]] w fun e w' => e = .returned (.int .i64 E) ∧ Below w.heap.size w w' := by
  have e0 : reqB l l 1 1 0 1 = false := by unfold reqB; simp; omega
  have c1 : ((1 : Int) != 1) = false := by decide
  have c2 : decide (l < l) = false := by simp
  go_enter Try.func25, Try.ntmps25
  go_wp2_with fail
  refine (refIsEmpty_any _ _ _ _).mono ?_
  rintro e w1 ⟨rfl, hb1⟩
  obtain ⟨W1, s1, x0, x1, x2⟩ := box3 hb1
  clear hb1
  go_wp2_with fail
  go_quiet (fail)
  by_cases d : -1000000 ≤ l ∧ l ≤ 1000000
  · have e1 := Lib.hid (show E = 0 by rw [hE.out, if_pos d])
    obtain ⟨d1, d2⟩ := d
    go_wp2_with (go_at_call 106; refine (within_yes _ _ d1 d2).mono ?_; rintro e w' ⟨rfl, rfl⟩)
    go_ret
    exact ⟨by rw [e1.out]; rfl, below_drewN W1.out _⟩
  · have e1 := Lib.hid (show E = 4 by rw [hE.out, if_neg d])
    have D := Lib.hid d
    clear d
    go_wp2_with (go_at_call 106; refine (within_no _ _ D.out).mono ?_; rintro e w' ⟨rfl, rfl⟩)
    go_ret
    exact ⟨by rw [e1.out]; rfl, below_drewN W1.out _⟩
set_option maxHeartbeats 400000 in
theorem refCheck_zero (l h : Int) (w : World) (c : l < h) :
    Calls Try.prog 25 #[.agg #[.int .i64 l, .int .i64 h, .int .i64 0]] w fun e w' => e = .returned (.int .i64 2) ∧ Below w.heap.size w w' := by
  have e0 : reqB l h 0 1 0 1 = false := by unfold reqB; simp
  have c0 : (l == h) = false := by simp; omega
  have c1 : decide (l < h) = true := by simp [c]
  have c2 : ((0 : Int) == 0) = true := by decide
  go_enter Try.func25, Try.ntmps25
  go_wp2_with fail
  refine (refIsEmpty_any _ _ _ _).mono ?_
  rintro e w1 ⟨rfl, hb1⟩
  obtain ⟨W1, s1, x0, x1, x2⟩ := box3 hb1
  clear hb1
  go_wp2_with fail
  go_quiet (fail)
  go_wp2
  go_ret
  exact ⟨rfl, below_drewN W1.out _⟩
set_option maxHeartbeats 800000 in
theorem refCheck_form (l h s : Int) (w : World) (hl : I64 l) (hh : I64 h) (hs : I64 s) (c : l < h) (cs : ¬ s = 0) (E : Int) (hE : Hid (E = if h % s = l % s then (if -1000000 ≤ l ∧ h ≤ 1000000 then 0 else 4) else 2)) :
    Calls Try.prog 25 #[.agg #[.int .i64 l, .int .i64 h, .int .i64 s]] w fun e w' => e = .returned (.int .i64 E) ∧ Below w.heap.size w w' := by
  have e0 : reqB l h s 1 0 1 = false := by unfold reqB; simp; omega
  have c0 : (l == h) = false := by simp; omega
  have c1 : decide (l < h) = true := by simp [c]
  have c2 : (s == 0) = false := by simp [cs]
  have HS := Lib.hid cs
  clear cs
  go_enter Try.func25, Try.ntmps25
  go_wp2_with fail
  refine (refIsEmpty_any _ _ _ _).mono ?_
  rintro e w1 ⟨rfl, hb1⟩
  obtain ⟨W1, s1, x0, x1, x2⟩ := box3 hb1
  clear hb1
  go_wp2_with fail
  go_region_held3 (fun w' => w'.cell? ⟨w.heap.size, 0, none⟩ = some (.int .i64 l) ∧ w'.cell? ⟨w.heap.size, 1, none⟩ = some (.int .i64 h) ∧ w'.cell? ⟨w.heap.size, 2, none⟩ = some (.int .i64 s)) (go_keep) (first | (go_at_call 116; refine (mod_any _ _ _ (by assumption) hs HS.out).mono ?_; rintro e w' ⟨rfl, rfl⟩))
  rename_i hH
  clear hH
  by_cases cm : h % s = l % s
  · have cm' : (h % s != l % s) = false := by simp [cm]
    have F := Lib.hid (show E = if -1000000 ≤ l ∧ h ≤ 1000000 then 0 else 4 by rw [hE.out, if_pos cm])
    clear cm hE
    by_cases d1 : -1000000 ≤ l ∧ l ≤ 1000000
    · by_cases d2 : -1000000 ≤ h ∧ h ≤ 1000000
      · have e1 := Lib.hid (show E = 0 by rw [F.out, if_pos ⟨d1.1, d2.2⟩])
        obtain ⟨d1, d3⟩ := d1
        obtain ⟨d2, d4⟩ := d2
        go_wp2_with fail
        refine (within_yes _ _ d1 d3).mono ?_
        rintro e w' ⟨rfl, rfl⟩
        go_wp2_with fail
        refine (within_yes _ _ d2 d4).mono ?_
        rintro e w' ⟨rfl, rfl⟩
        go_wp2
        go_ret
        exact ⟨by rw [e1.out]; rfl, W1.out.drew⟩
      · have e1 := Lib.hid (show E = 4 by rw [F.out, if_neg (by omega)])
        have D := Lib.hid d2
        obtain ⟨d1, d3⟩ := d1
        clear d2
        go_wp2_with fail
        refine (within_yes _ _ d1 d3).mono ?_
        rintro e w' ⟨rfl, rfl⟩
        go_wp2_with fail
        refine (within_no _ _ D.out).mono ?_
        rintro e w' ⟨rfl, rfl⟩
        go_wp2
        go_ret
        exact ⟨by rw [e1.out]; rfl, W1.out.drew⟩
    · have e1 := Lib.hid (show E = 4 by rw [F.out, if_neg (by omega)])
      have D := Lib.hid d1
      clear d1
      go_wp2_with fail
      refine (within_no _ _ D.out).mono ?_
      rintro e w' ⟨rfl, rfl⟩
      go_wp2
      go_ret
      exact ⟨by rw [e1.out]; rfl, W1.out.drew⟩
  · have cm' : (h % s != l % s) = true := by simp [cm]
    have e1 := Lib.hid (show E = 2 by rw [hE.out, if_neg cm])
    clear cm hE
    go_wp2
    go_ret
    exact ⟨by rw [e1.out]; rfl, W1.out.drew⟩
theorem refCheck_any (l h s : Int) (w : World) (hl : I64 l) (hh : I64 h) (hs : I64 s) :
    Calls Try.prog 25 #[.agg #[.int .i64 l, .int .i64 h, .int .i64 s]] w fun e w' => e = .returned (.int .i64 (chk l h s)) ∧ Below w.heap.size w w' := by
  cases e0 : reqB l h s 1 0 1
  · by_cases c : h < l
    · have e : chk l h s = 2 := by
        have : fmd l h s = false := by unfold fmd; simp; omega
        unfold chk; rw [e0, this]; simp
      rw [e]; exact refCheck_over l h s w e0 c
    · by_cases d : l = h
      · subst d
        by_cases f : s = 1
        · subst f
          have e : chk l l 1 = if -1000000 ≤ l ∧ l ≤ 1000000 then 0 else 4 := by
            have : fmd l l 1 = true := by unfold fmd; simp
            unfold chk; rw [e0, this]
            by_cases g : -1000000 ≤ l ∧ l ≤ 1000000
            · rw [if_pos g]; simp; omega
            · rw [if_neg g]; simp; omega
          exact refCheck_one l w _ e
        · have e : chk l l s = 2 := by
            have : fmd l l s = false := by unfold fmd; simp [f]
            unfold chk; rw [e0, this]; simp
          rw [e]; exact refCheck_single l s w f
      · have c1 : l < h := by omega
        by_cases f : s = 0
        · subst f
          have e : chk l h 0 = 2 := by
            have : fmd l h 0 = false := by unfold fmd; simp [d]
            unfold chk; rw [e0, this]; simp
          rw [e]; exact refCheck_zero l h w c1
        · refine refCheck_form l h s w hl hh hs c1 f _ ?_
          show chk l h s = _
          unfold chk
          rw [e0, fmd_mod l h s c1 f]
          by_cases g : h % s = l % s
          · rw [if_pos g]
            by_cases k : -1000000 ≤ l ∧ h ≤ 1000000
            · rw [if_pos k]; simp [g]; omega
            · rw [if_neg k]; simp [g]; omega
          · rw [if_neg g]; simp [g]
  · have : l = 1 ∧ h = 0 ∧ s = 1 := by simpa [reqB] using e0
    obtain ⟨rfl, rfl, rfl⟩ := this
    have e : chk 1 0 1 = 0 := by decide
    rw [e]; exact refCheck_empty w
end Go.Proofs.Ytabgphlpdoockaa
namespace Go.Proofs.Ytabgphlpdoockaa
open Go.RowKit
theorem refCheck_ok (l h s : Int) (w : World) (hk : Hid (chk l h s = 0)) :
    Calls Try.prog 25 #[.agg #[.int .i64 l, .int .i64 h, .int .i64 s]] w fun e w' => e = .returned (.int .i64 0) ∧ Below w.heap.size w w' := by
  have b := chk_bounds hk.out
  exact (refCheck_any l h s w ⟨by omega, by omega⟩ ⟨by omega, by omega⟩ ⟨by omega, by omega⟩).mono fun _ _ ⟨he, hb⟩ => ⟨by rw [he, hk.out], hb⟩
set_option maxHeartbeats 400000 in
theorem refSize_bad (l h s : Int) (w : World) (hl : I64 l) (hh : I64 h) (hs : I64 s) (hk : ¬ chk l h s = 0) :
    Calls Try.prog 27 #[.agg #[.int .i64 l, .int .i64 h, .int .i64 s]] w fun e w' => e = .returned (.int .i64 0) ∧ Below w.heap.size w w' := by
  have hn : (chk l h s != 0) = true := by simp [hk]
  clear hk
  go_enter Try.func27, Try.ntmps27
  go_wp2_with fail
  refine (refCheck_any l h s _ hl hh hs).mono ?_
  rintro e w1 ⟨rfl, hb1⟩
  obtain ⟨W1, s1, x0, x1, x2⟩ := box3 hb1
  clear hb1
  go_wp2
  go_ret
  exact ⟨rfl, W1.out⟩
set_option maxHeartbeats 400000 in
theorem refSize_empty (w : World) :
    Calls Try.prog 27 #[.agg #[.int .i64 1, .int .i64 0, .int .i64 1]] w fun e w' => e = .returned (.int .i64 0) ∧ Below w.heap.size w w' := by
  have e0 : reqB 1 0 1 1 0 1 = true := by decide
  go_enter Try.func27, Try.ntmps27
  go_wp2_with fail
  refine (refCheck_ok 1 0 1 _ (Lib.hid (show chk 1 0 1 = 0 by decide))).mono ?_
  rintro e w1 ⟨rfl, hb1⟩
  obtain ⟨W1, s1, x0, x1, x2⟩ := box3 hb1
  clear hb1
  go_wp2_with fail
  refine (refIsEmpty_any _ _ _ _).mono ?_
  rintro e w2 ⟨rfl, hb2⟩
  have W2 := hidTrans W1 hb2 (by omega)
  clear hb2 W1 x0 x1 x2
  go_wp2
  go_ret
  exact ⟨rfl, W2.out⟩
set_option maxHeartbeats 800000 in
theorem refSize_ok (l h s : Int) (w : World) (hk : Hid (chk l h s = 0)) (hle : l ≤ h) :
    Calls Try.prog 27 #[.agg #[.int .i64 l, .int .i64 h, .int .i64 s]] w fun e w' => e = .returned (.int .i64 (siz l h s)) ∧ Below w.heap.size w w' := by
  obtain ⟨b1, b2, b3, b4, b5, b6, b7, b8⟩ := chk_bounds hk.out
  have E := Lib.hid (siz_ok hk.out hle)
  have q1 := quo_bd (h - l) (magA s) (by omega) b7
  have e0 : reqB l h s 1 0 1 = false := by unfold reqB; simp; omega
  have hz : ¬ magA s = 0 := by omega
  have k1 : IntKind.i64.wrap (h - l) = h - l := IntWalk.i64_in _ (by omega)
  have k2 : IntKind.i64.wrap ((h - l).tdiv (magA s)) = (h - l) / magA s := IntWalk.i64_quo _ _ ⟨by omega, by omega, b7⟩
  have k3 : IntKind.i64.wrap ((h - l) / magA s + 1) = (h - l) / magA s + 1 := IntWalk.i64_in _ (by omega)
  go_enter Try.func27, Try.ntmps27
  go_wp2_with fail
  refine (refCheck_ok l h s _ hk).mono ?_
  rintro e w1 ⟨rfl, hb1⟩
  obtain ⟨W1, s1, x0, x1, x2⟩ := box3 hb1
  clear hb1
  go_wp2_with fail
  refine (refIsEmpty_any _ _ _ _).mono ?_
  rintro e w2 ⟨rfl, hb2⟩
  have W2 := hidTrans W1 hb2 (by omega)
  obtain ⟨s2, y0, y1, y2⟩ := keep3 hb2 s1 x0 x1 x2
  clear hb2 W1 x0 x1 x2 s1
  go_wp2_with fail
  go_region_held3 (fun w' => w'.cell? ⟨w.heap.size, 0, none⟩ = some (.int .i64 l) ∧ w'.cell? ⟨w.heap.size, 1, none⟩ = some (.int .i64 h) ∧ w'.cell? ⟨w.heap.size, 2, none⟩ = some (.int .i64 s)) (first | go_keep | (refine ⟨?_, ?_, ?_⟩ <;> (rw [hc1 _ _ (by simp; omega)]; go_keep))) (first | (go_at_call 112; refine (refStep_any _ _ _ _ (by omega) (by omega)).mono ?_; rintro e w3 ⟨rfl, hb3⟩; obtain ⟨hc1, hf1⟩ := bcell hb3))
  have W3 := W2.out.drew.trans (hb3.mono (by simp; omega))
  clear k1 k2 k3 hb3 hc1 hf1
  go_wp2
  go_ret
  exact ⟨by rw [E.out]; rfl, W3⟩
theorem refSize_any (l h s : Int) (w : World) (hl : I64 l) (hh : I64 h) (hs : I64 s) :
    Calls Try.prog 27 #[.agg #[.int .i64 l, .int .i64 h, .int .i64 s]] w fun e w' => e = .returned (.int .i64 (siz l h s)) ∧ Below w.heap.size w w' := by
  by_cases hk : chk l h s = 0
  · by_cases hle : l ≤ h
    · exact refSize_ok l h s w hk hle
    · obtain ⟨rfl, rfl, rfl⟩ := le_of_chk hk hle
      exact (refSize_empty w).mono fun _ _ ⟨he, hb⟩ => ⟨by rw [he]; rfl, hb⟩
  · exact (refSize_bad l h s w hl hh hs hk).mono fun _ _ ⟨he, hb⟩ => ⟨by rw [he]; unfold siz; rw [if_neg (fun c => hk c.1)], hb⟩
theorem refSize_zero (l h s : Int) (w : World) (hl : I64 l) (hh : I64 h) (hs : I64 s) (hz : Hid (siz l h s = 0)) :
    Calls Try.prog 27 #[.agg #[.int .i64 l, .int .i64 h, .int .i64 s]] w fun e w' => e = .returned (.int .i64 0) ∧ Below w.heap.size w w' :=
  (refSize_any l h s w hl hh hs).mono fun _ _ ⟨he, hb⟩ => ⟨by rw [he, hz.out], hb⟩
end Go.Proofs.Ytabgphlpdoockaa
