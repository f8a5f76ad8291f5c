/-
  Plain facts on moved ranges, and what Translate, Expand, Interior and Exterior return for numbers from 0 on.
-/
import Derived.Test.YtdifilndpilboaaSetM
import Derived.Test.YtdifilndpilboaaMovC
namespace Go.Proofs.Ytdifilndpilboaa
open Go.RowKit

/-- the numbers of a range that is not empty, ascending -/
def ascL (l m : Int) (z : Nat) : List Int := (List.range z).map fun (k : Nat) => l + (k : Int) * m
theorem ascL_up (l m : Int) (z : Nat) (hm : 1 ≤ m) : (ascL l m z).Pairwise (· < ·) := by
  unfold ascL
  rw [List.pairwise_map]
  refine List.Pairwise.imp ?_ List.pairwise_lt_range
  intro i j hij
  have : ((i : Int) + 1) * m ≤ (j : Int) * m := mulr_a _ _ _ (by omega) (by omega)
  rw [Int.add_mul] at this
  omega
theorem ascL_mem {l h s : Int} (hk : chk l h s = 0) (hle : l ≤ h) (n : Int) : n ∈ ascL l (magA s) (siz l h s).toNat ↔ RMem l h s n := by
  obtain ⟨st, z, m1, s0⟩ := steps_a hk hle
  unfold ascL
  rw [List.mem_map]
  constructor
  · rintro ⟨k, hk1, rfl⟩
    have hlt : k < (siz l h s).toNat := by simpa using hk1
    have : (k : Int) * magA s ≤ (siz l h s - 1) * magA s := mulr_a _ _ _ (by omega) (by omega)
    have : 0 ≤ (k : Int) * magA s := Int.mul_nonneg (by omega) (by omega)
    exact ⟨by omega, by omega, by rw [show l + (k : Int) * magA s - l = (k : Int) * magA s by omega]; exact Int.dvd_mul_left _ _⟩
  · rintro ⟨h1, h2, q, hq⟩
    have q0 : 0 ≤ q := by
      by_cases c : 0 ≤ q
      · exact c
      · have : magA s * q ≤ magA s * (-1) := Int.mul_le_mul_of_nonneg_left (by omega) (by omega)
        omega
    have q1 : q ≤ siz l h s - 1 := by
      by_cases c : q ≤ siz l h s - 1
      · exact c
      · have : (siz l h s - 1 + 1) * magA s ≤ q * magA s := mulr_a _ _ _ (by omega) (by omega)
        rw [Int.add_mul] at this
        rw [Int.mul_comm] at hq
        omega
    exact ⟨q.toNat, by simp; omega, by rw [show ((q.toNat : Nat) : Int) = q by omega, Int.mul_comm, ← hq]; omega⟩
theorem srt_nums {l h s : Int} (hk : chk l h s = 0) (hle : l ≤ h) : srt (numsL l h s) = ascL l (magA s) (siz l h s).toNat := by
  have up := ascL_up l (magA s) (siz l h s).toNat (steps_a hk hle).2.2.1
  have p : (numsL l h s).Perm (ascL l (magA s) (siz l h s).toNat) := (List.perm_ext_iff_of_nodup (nums_nodup hk) (up.imp fun h => by omega)).2 fun n => (nums_mem hk n).trans (ascL_mem hk hle n).symm
  rw [srt_perm p, srt_sorted (up.imp fun h => by omega)]
theorem ascL_drop (l m : Int) (z n : Nat) (h : n ≤ z) : (ascL l m z).drop (z - n) = ascL (l + ((z : Int) - n) * m) m n := by
  apply List.ext_getElem?
  intro i
  unfold ascL
  rw [List.getElem?_drop, List.getElem?_map, List.getElem?_map]
  by_cases c : i < n
  · rw [List.getElem?_range (by omega), List.getElem?_range c]
    simp only [Option.map_some, Option.some.injEq]
    rw [show (((z - n + i : Nat) : Int)) = (z : Int) - n + i by omega, Int.add_mul]
    omega
  · rw [List.getElem?_eq_none (by simp; omega), List.getElem?_eq_none (by simp; omega)]
    rfl

/-- a range that is not empty is the normal one with its ends, its step and its direction -/
theorem one_of {l h s : Int} (hk : chk l h s = 0) (e : l = h) : s = 1 := by
  rcases chk_zero hk with ⟨_, _, rfl⟩ | ⟨_, _, _, _, _, _, _, _, _, one⟩
  · rfl
  · exact one e
theorem nS_of {s : Int} (lo hi : Int) (h1 : lo ≤ hi) (h2 : lo = hi → s = 1) : nS lo hi (magA s) (decide (s < 0)) = s := by
  unfold nS
  rw [if_neg (by omega)]
  by_cases e : lo = hi
  · rw [if_pos e, h2 e]
  · rw [if_neg e]
    unfold magA
    by_cases c : s < 0
    · simp [c]
    · simp [c]
theorem nLH {lo hi : Int} (h : lo ≤ hi) : nL lo hi = lo ∧ nH lo hi = hi := ⟨if_neg (by omega), if_neg (by omega)⟩
/-- a range with other ends, as far apart by steps_a -/
theorem chk_ends {l h s : Int} (hk : chk l h s = 0) (hle : l ≤ h) (lo hi : Int) (h1 : lo ≤ hi) (h2 : lo = hi → s = 1) (hd : magA s ∣ hi - lo) : chk lo hi s = if lo < -1000000 ∨ 1000000 < hi then 4 else 0 := by
  have c := chk_nrm lo hi (magA s) (decide (s < 0)) h1 (steps_a hk hle).2.2.1 (Int.emod_eq_zero_of_dvd hd)
  rw [(nLH h1).1, (nLH h1).2, nS_of lo hi h1 h2] at c
  exact c
theorem siz_ends {l h s : Int} (hk : chk l h s = 0) (hle : l ≤ h) (lo hi : Int) (hc : chk lo hi s = 0) (h1 : lo ≤ hi) (c : Int) (he : hi - lo = (siz l h s - 1 + c) * magA s) : siz lo hi s = siz l h s + c := by
  obtain ⟨st, z, m1, s0⟩ := steps_a hk hle
  rw [siz_ok hc h1, he, Int.mul_ediv_cancel _ (by omega)]; omega

/-- what a change of a range returns: a range of which P holds, or an error -/
def MvRet (P : Int → Int → Int → Prop) (w : World) : Ending → World → Prop := fun e w' => ∃ a b c er : Int, e = .returned (.tuple #[.agg #[.int .i64 a, .int .i64 b, .int .i64 c], .int .i64 er]) ∧ Below w.heap.size w w' ∧ Hid ((er = 0 ∧ P a b c) ∨ er = 4)
theorem mv_ok {f : FuncId} {l h s n a b c : Int} {P : Int → Int → Int → Prop} (r : Ret4 f l h s n a b c 0) (p : P a b c) (w : World) : Calls Try.prog f #[.agg #[.int .i64 l, .int .i64 h, .int .i64 s], .int .i64 n] w (MvRet P w) :=
  (r w).mono fun _ _ ⟨he, hb⟩ => ⟨a, b, c, 0, he, hb, Lib.hid (Or.inl ⟨rfl, p⟩)⟩
theorem mv_no {f : FuncId} {l h s n a b c : Int} {P : Int → Int → Int → Prop} (r : Ret4 f l h s n a b c 4) (w : World) : Calls Try.prog f #[.agg #[.int .i64 l, .int .i64 h, .int .i64 s], .int .i64 n] w (MvRet P w) :=
  (r w).mono fun _ _ ⟨he, hb⟩ => ⟨a, b, c, 4, he, hb, Lib.hid (Or.inr rfl)⟩

/-- Translate of a range that is not empty -/
theorem transOk (l h s n : Int) (hk : chk l h s = 0) (hle : l ≤ h) (n1 : -2000000 ≤ n) (n2 : n ≤ 2000000) (out : ¬ (l + n < -1000000 ∨ 1000000 < h + n)) : Ret4 32 l h s n (l + n) (h + n) s 0 := by
  obtain ⟨st, z1, m1, s0⟩ := steps_a hk hle
  obtain ⟨b1, b2, b3, b4, b5, b6, b7, b8⟩ := chk_bounds hk
  have hm : (h + n - (l + n)) % magA s = 0 := by rw [show h + n - (l + n) = h - l by omega, st]; exact Int.mul_emod_left _ _
  have hc := chk_nrm (l + n) (h + n) (magA s) (decide (s < 0)) (by omega) m1 hm
  rw [if_neg out] at hc
  have cn := clampI_nearM n n1 n2
  have r := wrapTranslate l h s n _ _ _ _ (Lib.hid (show MovedTo _ l h s (clampI n) _ _ _ _ from fun b0 o w hw => moved_Translate b0 o _ l h s _ _ _ _ w hk hle hw (fun w' hw' => trClo l h _ (clampI n) _ b0 o w' hw' (by omega) (by omega) (by omega) (by omega) (by omega) (by omega)) ⟨by omega, by omega⟩ ⟨by omega, by omega⟩ (by omega) (by omega) (by rw [cn]; exact hc)))
  rw [cn, (nLH (show l + n ≤ h + n by omega)).1, (nLH (show l + n ≤ h + n by omega)).2, nS_of (l + n) (h + n) (by omega) (fun e => one_of hk (by omega))] at r
  exact r
theorem transBad (l h s n : Int) (hk : chk l h s = 0) (hle : l ≤ h) (n1 : -2000000 ≤ n) (n2 : n ≤ 2000000) (out : l + n < -1000000 ∨ 1000000 < h + n) : Ret4 32 l h s n 0 0 0 4 := by
  obtain ⟨st, z1, m1, s0⟩ := steps_a hk hle
  obtain ⟨b1, b2, b3, b4, b5, b6, b7, b8⟩ := chk_bounds hk
  have hm : (h + n - (l + n)) % magA s = 0 := by rw [show h + n - (l + n) = h - l by omega, st]; exact Int.mul_emod_left _ _
  have hc := chk_nrm (l + n) (h + n) (magA s) (decide (s < 0)) (by omega) m1 hm
  rw [if_pos out] at hc
  have cn := clampI_nearM n n1 n2
  exact wrapTranslate l h s n _ _ _ _ (Lib.hid fun b0 o w hw => movedBad_Translate b0 o _ l h s _ _ _ _ w hk hle hw (fun w' hw' => trClo l h _ (clampI n) _ b0 o w' hw' (by omega) (by omega) (by omega) (by omega) (by omega) (by omega)) ⟨by omega, by omega⟩ ⟨by omega, by omega⟩ (by omega) (by omega) (by rw [cn]; exact hc))
/-- what the law asks of the moved range -/
def TrP (l h s n a b c : Int) : Prop := l + n = a ∧ h + n = b ∧ s = c ∧ chk (l + n) (h + n) s = 0
theorem trans_any (l h s n : Int) (w : World) (hk : chk l h s = 0) (hle : l ≤ h) (n1 : 0 ≤ n) (n2 : n ≤ 400) : Calls Try.prog 32 #[.agg #[.int .i64 l, .int .i64 h, .int .i64 s], .int .i64 n] w (MvRet (TrP l h s n) w) := by
  by_cases out : l + n < -1000000 ∨ 1000000 < h + n
  · exact mv_no (transBad l h s n hk hle (by omega) (by omega) out) w
  · refine mv_ok (transOk l h s n hk hle (by omega) (by omega) out) ⟨rfl, rfl, rfl, ?_⟩ w
    rw [chk_ends hk hle _ _ (by omega) (fun e => one_of hk (by omega)) (by rw [show h + n - (l + n) = h - l by omega]; exact (rmem_hi hk hle).2.2), if_neg out]
theorem trans_back (l h s n : Int) (hk : chk l h s = 0) (hle : l ≤ h) (n1 : 0 ≤ n) (n2 : n ≤ 400) (hc : chk (l + n) (h + n) s = 0) : Ret4 32 (l + n) (h + n) s (-n) l h s 0 := by
  have bA := chk_bounds hk
  have r := transOk (l + n) (h + n) s (-n) hc (by omega) (by omega) (by omega) (by omega)
  rw [show l + n + -n = l by omega, show h + n + -n = h by omega] at r
  exact r
theorem trans_nums (l h s n : Int) (hk : chk l h s = 0) (hle : l ≤ h) (hc : chk (l + n) (h + n) s = 0) : numsL (l + n) (h + n) s = (numsL l h s).map (· + n) := by
  have z := siz_ends hk hle (l + n) (h + n) hc (by omega) 0 (by rw [Int.add_zero, ← (steps_a hk hle).1]; omega)
  unfold numsL numsU
  rw [z, Int.add_zero, List.map_map]
  congr 1
  funext k
  simp only [Function.comp, nthV]
  split <;> omega

/-- Expand of a range that is not empty, where it stays one -/
theorem expOk (l h s n : Int) (hk : chk l h s = 0) (hle : l ≤ h) (n1 : -2000000 ≤ n) (n2 : n ≤ 2000000) (le : l - n * magA s ≤ h + n * magA s) (eq : l - n * magA s = h + n * magA s → s = 1) (out : ¬ (l - n * magA s < -1000000 ∨ 1000000 < h + n * magA s)) :
    Ret4 34 l h s n (l - n * magA s) (h + n * magA s) s 0 := by
  obtain ⟨st, z1, m1, s0⟩ := steps_a hk hle
  have hm : (h + n * magA s - (l - n * magA s)) % magA s = 0 := by
    rw [show h + n * magA s - (l - n * magA s) = (h - l) + (n + n) * magA s by rw [Int.add_mul]; omega, st]
    exact sub_mod_stepM _ _ _ (Int.mul_emod_left _ _)
  have hc := chk_nrm _ _ (magA s) (decide (s < 0)) le m1 hm
  rw [if_neg out] at hc
  have cn := clampI_nearM n n1 n2
  have r := expandOkM l h s n hk hle (by rw [cn]; exact hc)
  rw [cn, (nLH le).1, (nLH le).2, nS_of _ _ le eq] at r
  exact r
def ExP (l h s n a b c : Int) : Prop := l - n * magA s = a ∧ h + n * magA s = b ∧ s = c ∧ chk (l - n * magA s) (h + n * magA s) s = 0
theorem exp_any (l h s n : Int) (w : World) (hk : chk l h s = 0) (hle : l ≤ h) (n1 : 0 ≤ n) (n2 : n ≤ 400) : Calls Try.prog 34 #[.agg #[.int .i64 l, .int .i64 h, .int .i64 s], .int .i64 n] w (MvRet (ExP l h s n) w) := by
  obtain ⟨st, z1, m1, s0⟩ := steps_a hk hle
  have p0 : 0 ≤ n * magA s := Int.mul_nonneg n1 (by omega)
  have le : l - n * magA s ≤ h + n * magA s := by omega
  have d : magA s ∣ h + n * magA s - (l - n * magA s) := by
    rw [show h + n * magA s - (l - n * magA s) = (h - l) + (n + n) * magA s by rw [Int.add_mul]; omega]
    exact Int.dvd_add (rmem_hi hk hle).2.2 (Int.dvd_mul_left _ _)
  have c := chk_ends hk hle _ _ le (fun e => one_of hk (by omega)) d
  by_cases out : l - n * magA s < -1000000 ∨ 1000000 < h + n * magA s
  · have cn := clampI_nearM n (by omega) (by omega)
    have hc := chk_nrm _ _ (magA s) (decide (s < 0)) le m1 (Int.emod_eq_zero_of_dvd d)
    rw [if_pos out] at hc
    exact mv_no (expandBadM l h s n hk hle (by rw [cn]; exact hc)) w
  · rw [if_neg out] at c
    exact mv_ok (expOk l h s n hk hle (by omega) (by omega) le (fun e => one_of hk (by omega)) out) ⟨rfl, rfl, rfl, c⟩ w
theorem exp_back (l h s n : Int) (hk : chk l h s = 0) (hle : l ≤ h) (n1 : 0 ≤ n) (n2 : n ≤ 400) (hc : chk (l - n * magA s) (h + n * magA s) s = 0) : Ret4 34 (l - n * magA s) (h + n * magA s) s (-n) l h s 0 := by
  obtain ⟨st, z1, m1, s0⟩ := steps_a hk hle
  have bA := chk_bounds hk
  have p0 : 0 ≤ n * magA s := Int.mul_nonneg n1 (by omega)
  have e1 : l - n * magA s - -n * magA s = l := by rw [Int.neg_mul]; omega
  have e2 : h + n * magA s + -n * magA s = h := by rw [Int.neg_mul]; omega
  have r := expOk (l - n * magA s) (h + n * magA s) s (-n) hc (by omega) (by omega) (by omega) (by rw [e1, e2]; exact hle) (by rw [e1, e2]; exact one_of hk) (by rw [e1, e2]; omega)
  rw [e1, e2] at r
  exact r
theorem siz_exp (l h s n : Int) (hk : chk l h s = 0) (hle : l ≤ h) (n1 : 0 ≤ n) (hc : chk (l - n * magA s) (h + n * magA s) s = 0) : siz (l - n * magA s) (h + n * magA s) s = siz l h s + 2 * n := by
  obtain ⟨st, z1, m1, s0⟩ := steps_a hk hle
  have p0 : 0 ≤ n * magA s := Int.mul_nonneg n1 (by omega)
  refine siz_ends hk hle _ _ hc (by omega) (2 * n) ?_
  rw [Int.add_mul, ← st, Int.mul_assoc]; omega
theorem exp_within (l h s n : Int) (hk : chk l h s = 0) (hle : l ≤ h) (n1 : 0 ≤ n) : ∀ x, RMem l h s x → RMem (l - n * magA s) (h + n * magA s) s x := by
  obtain ⟨st, z1, m1, s0⟩ := steps_a hk hle
  have p0 : 0 ≤ n * magA s := Int.mul_nonneg n1 (by omega)
  rintro x ⟨h1, h2, h3⟩
  refine ⟨by omega, by omega, ?_⟩
  rw [show x - (l - n * magA s) = (x - l) + n * magA s by omega]
  exact Int.dvd_add h3 (Int.dvd_mul_left _ _)

/-- what the law asks of the numbers inside of the upper end -/
def InP (l h s n a b c : Int) : Prop := chk a b c = 0 ∧ siz a b c ≤ 400 ∧ n ≤ siz l h s ∧ srt (numsL a b c) = (srt (numsL l h s)).drop ((siz l h s).toNat - n.toNat)
/-- .. Interior returns them, or that there are not so many -/
def InRet (l h s n : Int) (w : World) : Ending → World → Prop := fun e w' => ∃ a b c er : Int, e = .returned (.tuple #[.agg #[.int .i64 a, .int .i64 b, .int .i64 c], .int .i64 er]) ∧ Below w.heap.size w w' ∧ Hid ((er = 0 ∧ InP l h s n a b c) ∨ (er = 5 ∧ siz l h s < n))
theorem int_any (l h s n : Int) (w : World) (hk : chk l h s = 0) (hle : l ≤ h) (hz : siz l h s ≤ 400) (n1 : 0 ≤ n) : Calls Try.prog 36 #[.agg #[.int .i64 l, .int .i64 h, .int .i64 s], .int .i64 n] w (InRet l h s n w) := by
  obtain ⟨st, z1, m1, s0⟩ := steps_a hk hle
  obtain ⟨b1, b2, b3, b4, b5, b6, b7, b8⟩ := chk_bounds hk
  by_cases big : siz l h s < n
  · exact (interiorCount l h s n (Lib.hid hk) (Or.inl big) w).mono fun _ _ ⟨he, hb⟩ => ⟨_, _, _, _, he, hb, Lib.hid (Or.inr ⟨rfl, big⟩)⟩
  · by_cases n0 : n = 0
    · subst n0
      refine (intZeroM l h s hk w).mono fun _ _ ⟨he, hb⟩ => ⟨_, _, _, _, he, hb, Lib.hid (Or.inl ⟨rfl, by decide, by decide, by omega, ?_⟩)⟩
      rw [srt_nums hk hle]
      have e : numsL 1 0 1 = [] := by decide
      rw [e]
      simp [srt, ascL]
    · have lo : h - (n - 1) * magA s ≤ h := by have : 0 ≤ (n - 1) * magA s := Int.mul_nonneg (by omega) (by omega); omega
      have c1 : (n - 1) * magA s ≤ (siz l h s - 1) * magA s := mulr_a _ _ _ (by omega) (by omega)
      have d : magA s ∣ h - (h - (n - 1) * magA s) := by rw [show h - (h - (n - 1) * magA s) = (n - 1) * magA s by omega]; exact Int.dvd_mul_left _ _
      have hc := chk_nrm (h - (n - 1) * magA s) h (magA s) (decide (s < 0)) lo m1 (Int.emod_eq_zero_of_dvd d)
      rw [if_neg (by omega)] at hc
      refine (intUpM l h s n hk hle (by omega) (by omega) w).mono fun _ _ ⟨he, hb⟩ => ⟨_, _, _, _, he, hb, Lib.hid (Or.inl ⟨rfl, hc, ?_⟩)⟩
      have mem := nrm_mem (dn := decide (s < 0)) lo m1
      have en := nrm_le' (st := magA s) (dn := decide (s < 0)) lo
      have le' : nL (h - (n - 1) * magA s) h ≤ nH (h - (n - 1) * magA s) h := by rw [(nLH lo).1, (nLH lo).2]; exact lo
      have sr : srt (numsL (nL (h - (n - 1) * magA s) h) (nH (h - (n - 1) * magA s) h) (nS (h - (n - 1) * magA s) h (magA s) (decide (s < 0)))) = ascL (h - (n - 1) * magA s) (magA s) n.toNat := by
        have up := ascL_up (h - (n - 1) * magA s) (magA s) n.toNat m1
        have p : (numsL (nL (h - (n - 1) * magA s) h) (nH (h - (n - 1) * magA s) h) (nS (h - (n - 1) * magA s) h (magA s) (decide (s < 0)))).Perm (ascL (h - (n - 1) * magA s) (magA s) n.toNat) := by
          refine (List.perm_ext_iff_of_nodup (nums_nodup hc) (up.imp fun h => by omega)).2 fun x => ?_
          rw [nums_mem hc]
          refine (mem x).trans ?_
          unfold ascL
          rw [List.mem_map]
          constructor
          · rintro ⟨x1, x2, q, hq⟩
            have q0 : 0 ≤ q := by
              by_cases c : 0 ≤ q
              · exact c
              · have : magA s * q ≤ magA s * (-1) := Int.mul_le_mul_of_nonneg_left (by omega) (by omega)
                omega
            have q1 : q ≤ n - 1 := by
              by_cases c : q ≤ n - 1
              · exact c
              · have : (n - 1 + 1) * magA s ≤ q * magA s := mulr_a _ _ _ (by omega) (by omega)
                rw [Int.add_mul] at this
                have := Int.mul_comm (magA s) q
                omega
            exact ⟨q.toNat, by simp; omega, by rw [show ((q.toNat : Nat) : Int) = q by omega]; have := Int.mul_comm (magA s) q; omega⟩
          · rintro ⟨k, hk1, rfl⟩
            have hlt : k < n.toNat := by simpa using hk1
            have : (k : Int) * magA s ≤ (n - 1) * magA s := mulr_a _ _ _ (by omega) (by omega)
            have : 0 ≤ (k : Int) * magA s := Int.mul_nonneg (by omega) (by omega)
            exact ⟨by omega, by omega, by rw [show h - (n - 1) * magA s + (k : Int) * magA s - (h - (n - 1) * magA s) = (k : Int) * magA s by omega]; exact Int.dvd_mul_left _ _⟩
        rw [srt_perm p, srt_sorted (up.imp fun h => by omega)]
      have ln : (numsL (nL (h - (n - 1) * magA s) h) (nH (h - (n - 1) * magA s) h) (nS (h - (n - 1) * magA s) h (magA s) (decide (s < 0)))).length = n.toNat := by
        rw [← srt_length, sr]; simp [ascL]
      rw [nums_len] at ln
      refine ⟨by omega, by omega, ?_⟩
      rw [sr, srt_nums hk hle, ascL_drop _ _ _ _ (by omega)]
      congr 1
      rw [show (((siz l h s).toNat : Nat) : Int) = siz l h s by omega, show ((n.toNat : Nat) : Int) = n by omega, show siz l h s - n = (siz l h s - 1) - (n - 1) by omega, Int.sub_mul (siz l h s - 1) (n - 1) (magA s), ← st]
      omega

/-- what the law asks of the numbers outside of the upper end -/
def XtP (l h s n a b c : Int) : Prop := chk a b c = 0 ∧ siz a b c = n ∧ (∀ x, ¬ (RMem a b c x ∧ RMem l h s x)) ∧
  ∀ l' h' s', HullOk a b c l h s l' h' s' → siz l' h' s' = n + siz l h s
theorem ext_any (l h s n : Int) (w : World) (hk : chk l h s = 0) (hle : l ≤ h) (n1 : 0 ≤ n) (n2 : n ≤ 400) : Calls Try.prog 38 #[.agg #[.int .i64 l, .int .i64 h, .int .i64 s], .int .i64 n] w (MvRet (XtP l h s n) w) := by
  obtain ⟨st, z1, m1, s0⟩ := steps_a hk hle
  obtain ⟨b1, b2, b3, b4, b5, b6, b7, b8⟩ := chk_bounds hk
  have cn := clampI_nearM n (by omega) (by omega)
  by_cases nz : n = 0
  · subst nz
    have ov : h + clampI 0 * magA s < h + magA s := by rw [cn, Int.zero_mul]; omega
    obtain ⟨e1, e2, e3⟩ := nrm_overM _ _ (magA s) (decide (s < 0)) ov
    refine mv_ok (exteriorUpM l h s 0 1 0 1 0 hk hle (by rw [cn]; omega) (Or.inl ⟨rfl, e1.symm, e2.symm, e3.symm, by decide⟩)) ⟨by decide, by decide, fun x hx => rmem_none (by decide) hx.1, ?_⟩ w
    rintro l' h' s' ⟨k1, _, k3, k4⟩
    have := canon k1 hk (fun x => ⟨k4 l h s hk (fun y hy => absurd hy (rmem_none (by decide))) (fun y hy => hy) x, k3 x⟩)
    omega
  · have lem : 1 * magA s ≤ n * magA s := mulr_a _ _ _ (by omega) (by omega)
    have d : magA s ∣ h + n * magA s - (h + magA s) := by
      rw [show h + n * magA s - (h + magA s) = (n - 1) * magA s by rw [Int.sub_mul]; omega]
      exact Int.dvd_mul_left _ _
    have hc := chk_nrm (h + magA s) (h + n * magA s) (magA s) (decide (s < 0)) (by omega) m1 (Int.emod_eq_zero_of_dvd d)
    by_cases out : h + magA s < -1000000 ∨ 1000000 < h + n * magA s
    · rw [if_pos out] at hc
      exact mv_no (exteriorUpM l h s n 0 0 0 4 hk hle (by omega) (Or.inr ⟨rfl, rfl, rfl, rfl, by rw [cn]; exact hc⟩)) w
    · rw [if_neg out] at hc
      have r := exteriorUpM l h s n _ _ _ _ hk hle (by omega) (Or.inl ⟨rfl, rfl, rfl, rfl, by rw [cn]; exact hc⟩)
      rw [cn] at r
      have le : h + magA s ≤ h + n * magA s := by omega
      have mem := nrm_mem (dn := decide (s < 0)) le m1
      have key : ∀ x, RMem (nL (h + magA s) (h + n * magA s)) (nH (h + magA s) (h + n * magA s)) (nS (h + magA s) (h + n * magA s) (magA s) (decide (s < 0))) x ↔ Mem (h + magA s) (h + n * magA s) (magA s) x := mem
      -- the whole: the range and what is outside of it
      have dh : magA s ∣ h + n * magA s - l := by
        rw [show h + n * magA s - l = (h - l) + n * magA s by omega]
        exact Int.dvd_add (rmem_hi hk hle).2.2 (Int.dvd_mul_left _ _)
      have hH := chk_ends hk hle l (h + n * magA s) (by omega) (by omega) dh
      rw [if_neg (by omega)] at hH
      have whole : ∀ x, RMem l (h + n * magA s) s x ↔ Mem (h + magA s) (h + n * magA s) (magA s) x ∨ RMem l h s x := by
        intro x
        constructor
        · rintro ⟨x1, x2, x3⟩
          by_cases c : x ≤ h
          · exact Or.inr ⟨x1, c, x3⟩
          · have dx := Int.dvd_sub x3 (rmem_hi hk hle).2.2
            rw [show x - l - (h - l) = x - h by omega] at dx
            have := Int.le_of_dvd (by omega) dx
            have dy := Int.dvd_sub dx (Int.dvd_refl (magA s))
            exact Or.inl ⟨by omega, x2, by rwa [show x - h - magA s = x - (h + magA s) by omega] at dy⟩
        · rintro (⟨x1, x2, x3⟩ | ⟨x1, x2, x3⟩)
          · refine ⟨by omega, x2, ?_⟩
            have := Int.dvd_add (Int.dvd_add x3 (Int.dvd_refl (magA s))) (rmem_hi hk hle).2.2
            rwa [show x - (h + magA s) + magA s + (h - l) = x - l by omega] at this
          · exact ⟨x1, by omega, x3⟩
      have zw := siz_ends hk hle l (h + n * magA s) hH (by omega) n (by rw [Int.add_mul, ← st]; omega)
      have e1 := (nLH le).1
      have e2 := (nLH le).2
      have le3 : nL (h + magA s) (h + n * magA s) ≤ nH (h + magA s) (h + n * magA s) := by rw [e1, e2]; exact le
      refine mv_ok r ⟨hc, ?_, ?_, ?_⟩ w
      · rw [siz_ok hc le3, e1, e2]
        by_cases one : n = 1
        · subst one
          rw [show h + 1 * magA s - (h + magA s) = 0 by omega]; simp
        · have e3 : nS (h + magA s) (h + n * magA s) (magA s) (decide (s < 0)) = s := nS_of _ _ le (fun e => by
            have : 2 * magA s ≤ n * magA s := mulr_a _ _ _ (by omega) (by omega)
            omega)
          rw [e3, show h + n * magA s - (h + magA s) = (n - 1) * magA s by rw [Int.sub_mul]; omega, Int.mul_ediv_cancel _ (by omega)]; omega
      · rintro x ⟨hx, hy⟩
        have := ((key x).1 hx).1
        have := hy.2.1
        omega
      · rintro l' h' s' ⟨k1, k2, k3, k4⟩
        have := canon k1 hH (fun x => ⟨k4 l (h + n * magA s) s hH (fun y hy => (whole y).2 (Or.inl ((key y).1 hy))) (fun y hy => (whole y).2 (Or.inr hy)) x, fun hx => ((whole x).1 hx).elim (fun m => k2 x ((key x).2 m)) (k3 x)⟩)
        omega
end Go.Proofs.Ytdifilndpilboaa
