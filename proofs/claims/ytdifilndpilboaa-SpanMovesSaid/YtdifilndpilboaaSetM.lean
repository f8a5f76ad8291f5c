/-
  Plain facts on the numbers of ranges as lists: they are told apart by order and members; the pieces of a difference have just the numbers that they must. No program in sight.
-/
import Derived.Test.YtdifilndpilboaaLawOr
namespace Go.Proofs.Ytdifilndpilboaa

/-- the numbers of a list, ascending -/
def srt (xs : List Int) : List Int := xs.mergeSort fun x y => decide (x ≤ y)
theorem srt_length (xs : List Int) : (srt xs).length = xs.length := List.length_mergeSort _
theorem srt_asc (xs : List Int) : (srt xs).Pairwise (· ≤ ·) := by
  have := List.pairwise_mergeSort (le := fun x y : Int => decide (x ≤ y)) (fun a b c h1 h2 => by simp at *; omega) (fun a b => by simp; omega) xs
  exact this.imp fun h => by simpa using h
theorem srt_perm {xs ys : List Int} (h : xs.Perm ys) : srt xs = srt ys :=
  List.Perm.eq_of_pairwise (le := (· ≤ ·)) (fun a b _ _ h1 h2 => by omega) (srt_asc _) (srt_asc _) (((List.mergeSort_perm _ _).trans h).trans (List.mergeSort_perm _ _).symm)
theorem srt_sorted {xs : List Int} (h : xs.Pairwise (· ≤ ·)) : srt xs = xs :=
  List.Perm.eq_of_pairwise (le := (· ≤ ·)) (fun a b _ _ h1 h2 => by omega) (srt_asc _) h (List.mergeSort_perm _ _)

theorem posB_iff {l h s n : Int} (hk : chk l h s = 0) : posB l h s n = true ↔ RMem l h s n := by
  unfold posB RMem Mem
  rw [decide_eq_true_iff]
  constructor
  · rintro ⟨_, a, b, c⟩; exact ⟨a, b, Int.dvd_of_emod_eq_zero c⟩
  · rintro ⟨a, b, c⟩; exact ⟨hk, a, b, Int.emod_eq_zero_of_dvd c⟩

theorem nums_mem {l h s : Int} (hk : chk l h s = 0) (n : Int) : n ∈ numsL l h s ↔ RMem l h s n := by
  unfold numsL numsU
  rw [List.mem_map]
  constructor
  · rintro ⟨k, hk1, rfl⟩
    have hlt : k < (siz l h s).toNat := by simpa using hk1
    exact (posB_iff hk).1 (nthV_in hk (show (k : Int) < siz l h s by omega)).1
  · intro hm
    have le : l ≤ h := by have := hm.1; have := hm.2.1; omega
    obtain ⟨st, z, m1, s0⟩ := steps_a hk le
    obtain ⟨q, hq⟩ := hm.2.2
    have h1 := hm.1
    have h2 := hm.2.1
    have q0 : 0 ≤ q := by
      by_cases c : 0 ≤ q
      · exact c
      · have : magA s * q ≤ magA s * (-1) := Int.mul_le_mul_of_nonneg_left (by omega) (by omega)
        omega
    have q1 : q ≤ siz l h s - 1 := by
      by_cases c : q ≤ siz l h s - 1
      · exact c
      · have : (siz l h s - 1 + 1) * magA s ≤ q * magA s := mulr_a _ _ _ (by omega) (by omega)
        rw [Int.add_mul] at this
        rw [Int.mul_comm] at hq
        omega
    by_cases c : s < 0
    · refine ⟨(siz l h s - 1 - q).toNat, by simp; omega, ?_⟩
      unfold nthV
      rw [if_pos c, show (((siz l h s - 1 - q).toNat : Nat) : Int) = siz l h s - 1 - q by omega, Int.sub_mul, ← st, Int.mul_comm q, ← hq]
      omega
    · refine ⟨q.toNat, by simp; omega, ?_⟩
      unfold nthV
      rw [if_neg c, show ((q.toNat : Nat) : Int) = q by omega, Int.mul_comm, ← hq]
      omega

theorem nums_up {l h s : Int} (hk : chk l h s = 0) (hs : ¬ s < 0) : (numsL l h s).Pairwise (· < ·) := by
  have bA := chk_bounds hk
  unfold numsL numsU
  rw [List.pairwise_map]
  refine List.Pairwise.imp ?_ List.pairwise_lt_range
  intro i j hij
  unfold nthV
  rw [if_neg hs, if_neg hs]
  have : ((i : Int) + 1) * magA s ≤ (j : Int) * magA s := mulr_a _ _ _ (by omega) (by omega)
  rw [Int.add_mul] at this
  omega
theorem nums_down {l h s : Int} (hk : chk l h s = 0) (hs : s < 0) : (numsL l h s).Pairwise (· > ·) := by
  have bA := chk_bounds hk
  unfold numsL numsU
  rw [List.pairwise_map]
  refine List.Pairwise.imp ?_ List.pairwise_lt_range
  intro i j hij
  unfold nthV
  rw [if_pos hs, if_pos hs]
  have : ((i : Int) + 1) * magA s ≤ (j : Int) * magA s := mulr_a _ _ _ (by omega) (by omega)
  rw [Int.add_mul] at this
  show _ > _
  omega
theorem nums_nodup {l h s : Int} (hk : chk l h s = 0) : (numsL l h s).Nodup := by
  by_cases c : s < 0
  · exact (nums_down hk c).imp fun h => by omega
  · exact (nums_up hk c).imp fun h => by omega
theorem nums_len (l h s : Int) : (numsL l h s).length = (siz l h s).toNat := numsL_length l h s
theorem nums_one {l h s : Int} (hk : chk l h s = 0) (c : ¬ l < h) : (numsL l h s).length ≤ 1 := by
  rw [nums_len]
  by_cases le : l ≤ h
  · rw [siz_ok hk le, show h - l = 0 by omega]; simp
  · rw [empty_a hk le]; simp

/-- the order of a range with a direction -/
theorem nums_dir {l h s : Int} (hk : chk l h s = 0) (d : Bool) (hd : l < h → (s < 0 ↔ d = true)) : (numsL l h s).Pairwise (fun x y => if d = true then x > y else x < y) := by
  by_cases c : l < h
  · cases d
    · exact (nums_up hk (fun e => by simpa using (hd c).1 e)).imp fun h => by simpa using h
    · exact (nums_down hk ((hd c).2 rfl)).imp fun h => by simpa using h
  · match hL : numsL l h s, nums_one hk c with
    | [], _ => exact List.Pairwise.nil
    | [x], _ => exact List.pairwise_singleton _ _

/-- what two ranges have in common are the numbers of the first one that are in the second one, in its order -/
theorem nums_inter {l1 h1 s1 l2 h2 s2 l h s : Int} (hA : chk l1 h1 s1 = 0) (hB : chk l2 h2 s2 = 0) (hC : chk l h s = 0) (hm : ∀ n, RMem l h s n ↔ RMem l1 h1 s1 n ∧ RMem l2 h2 s2 n) (hd : l < h → (s < 0 ↔ s1 < 0)) :
    numsL l h s = (numsL l1 h1 s1).filter (fun n => posB l2 h2 s2 n) := by
  refine List.Perm.eq_of_pairwise (le := fun x y => if decide (s1 < 0) = true then x > y else x < y) ?_ (nums_dir hC (decide (s1 < 0)) (fun c => by simpa using hd c)) ((nums_dir hA (decide (s1 < 0)) (fun _ => by simp)).filter _) ?_
  · intro a b _ _ x y
    split at x <;> rename_i c
    · rw [if_pos c] at y; omega
    · rw [if_neg c] at y; omega
  · refine (List.perm_ext_iff_of_nodup (nums_nodup hC) ((nums_nodup hA).filter _)).2 fun n => ?_
    rw [List.mem_filter, nums_mem hC, nums_mem hA, posB_iff hB]
    exact hm n

/-- the numbers of a list of ranges -/
def numsAll (L : List R3) : List Int := L.flatMap fun x => numsL x.1 x.2.1 x.2.2
/-- a list of right ranges that are not empty, that have no number twice, and just the numbers of which P holds -/
structure Acc (P : Int → Prop) (L : List R3) : Prop where
  ok : ∀ x ∈ L, chk x.1 x.2.1 x.2.2 = 0 ∧ x.1 ≤ x.2.1
  nodup : (numsAll L).Nodup
  mem : ∀ n, n ∈ numsAll L ↔ P n
theorem Acc.nil {P : Int → Prop} (h : ∀ n, ¬ P n) : Acc P [] := ⟨fun _ hx => (by cases hx), List.nodup_nil, fun n => ⟨fun hx => (by cases hx), fun hx => absurd hx (h n)⟩⟩
theorem Acc.iff {P Q : Int → Prop} {L : List R3} (a : Acc P L) (h : ∀ n, P n ↔ Q n) : Acc Q L := ⟨a.ok, a.nodup, fun n => (a.mem n).trans (h n)⟩
theorem nrm_le' {lo hi st : Int} {dn : Bool} (c : lo ≤ hi) : (nrm lo hi st dn).1 = lo ∧ (nrm lo hi st dn).2.1 = hi := by
  unfold nrm nL nH; simp; exact ⟨fun _ => by omega, fun _ => by omega⟩
theorem nrm_mem {lo hi st : Int} {dn : Bool} (c : lo ≤ hi) (h1 : 1 ≤ st) (n : Int) : RMem (nrm lo hi st dn).1 (nrm lo hi st dn).2.1 (nrm lo hi st dn).2.2 n ↔ Mem lo hi st n := by
  obtain ⟨e1, e2⟩ := nrm_le' (st := st) (dn := dn) c
  unfold RMem
  rw [e1, e2]
  unfold nrm nS Mem
  simp only
  rw [if_neg (by omega)]
  by_cases e : lo = hi
  · subst e
    rw [if_pos rfl]
    constructor
    · rintro ⟨a, b, _⟩; exact ⟨a, b, by rw [show n - lo = 0 by omega]; exact Int.dvd_zero _⟩
    · rintro ⟨a, b, _⟩; exact ⟨a, b, by rw [show n - lo = 0 by omega]; exact Int.dvd_zero _⟩
  · rw [if_neg e]
    have : magA (if dn = true then -st else st) = st := by
      unfold magA; split <;> split <;> omega
    rw [this]
theorem Acc.add {P : Int → Prop} {L : List R3} (a : Acc P L) (lo hi st : Int) (dn : Bool) (h1 : 1 ≤ st) (hb : lo ≤ hi → (st ∣ hi - lo) ∧ -1000000 ≤ lo ∧ hi ≤ 1000000) (hn : ∀ n, P n → ¬ Mem lo hi st n) : Acc (fun n => P n ∨ Mem lo hi st n) (addP L lo hi st dn) := by
  unfold addP
  by_cases c : lo ≤ hi
  · rw [if_pos c]
    obtain ⟨b1, b2, b3⟩ := hb c
    have ck : chk (nrm lo hi st dn).1 (nrm lo hi st dn).2.1 (nrm lo hi st dn).2.2 = 0 := by
      have := chk_nrm lo hi st dn c h1 (Int.emod_eq_zero_of_dvd b1)
      rw [if_neg (by omega)] at this
      exact this
    have e : numsAll (L ++ [nrm lo hi st dn]) = numsAll L ++ numsL (nrm lo hi st dn).1 (nrm lo hi st dn).2.1 (nrm lo hi st dn).2.2 := by
      unfold numsAll; rw [List.flatMap_append]; simp
    refine ⟨?_, ?_, ?_⟩
    · intro x hx
      rw [List.mem_append, List.mem_singleton] at hx
      rcases hx with hx | rfl
      · exact a.ok x hx
      · exact ⟨ck, by rw [(nrm_le' c).1, (nrm_le' c).2]; exact c⟩
    · rw [e, List.nodup_append]
      refine ⟨a.nodup, nums_nodup ck, fun x hx y hy exy => ?_⟩
      subst exy
      exact hn x ((a.mem x).1 hx) ((nrm_mem c h1 x).1 ((nums_mem ck x).1 hy))
    · intro n
      rw [e, List.mem_append, a.mem, nums_mem ck, nrm_mem c h1]
  · rw [if_neg c]
    exact a.iff fun n => ⟨Or.inl, fun h => h.elim id fun m => absurd (Int.le_trans m.1 m.2.1) c⟩

theorem Acc.mid {P : Int → Prop} {L : List R3} {l h m t : Int} {dn : Bool} (a : Acc P L) (m1 : 1 ≤ m) (t1 : 1 ≤ t) (hd : t ∣ h - l) (b1 : -1000000 ≤ l) (b2 : h ≤ 1000000) (hP : ∀ n, P n → n < l) : ∀ k : Nat, (k : Int) * m < t →
    Acc (fun n => P n ∨ ∃ j : Nat, 1 ≤ j ∧ j ≤ k ∧ Mem (l + (j : Int) * m) (h - t + (j : Int) * m) t n) (midN l h m t dn L k)
  | 0, _ => a.iff fun n => ⟨Or.inl, fun x => x.elim id fun ⟨j, j1, j0, _⟩ => by omega⟩
  | k + 1, hk => by
    have km : 0 ≤ (k : Int) * m := Int.mul_nonneg (by omega) (by omega)
    have e1 : (((k + 1 : Nat) : Int)) * m = (k : Int) * m + m := by push_cast; rw [Int.add_mul]; omega
    have ih := Acc.mid (dn := dn) a m1 t1 hd b1 b2 hP k (by omega)
    have e2 : ((k : Int) + 1) * m = (k : Int) * m + m := by rw [Int.add_mul]; omega
    refine (ih.add (l + ((k : Int) + 1) * m) (h - t + ((k : Int) + 1) * m) t dn t1 ?_ ?_).iff ?_
    · intro le
      obtain ⟨q, hq⟩ := hd
      refine ⟨⟨q - 1, by rw [Int.mul_sub, ← hq]; omega⟩, by omega, by omega⟩
    · rintro n (hn | ⟨j, j1, jk, hj⟩) hm
      · have := hP n hn; have := hm.1; omega
      · obtain ⟨q1, e3⟩ := hj.2.2
        obtain ⟨q2, e4⟩ := hm.2.2
        have jm : ((j : Int) + 1) * m ≤ ((k : Int) + 1) * m := mulr_a _ _ _ (by omega) (by omega)
        have jm0 : 1 * m ≤ (j : Int) * m := mulr_a _ _ _ (by omega) (by omega)
        rw [Int.add_mul] at jm
        have e5 : t * (q1 - q2) = ((k : Int) + 1) * m - (j : Int) * m := by rw [Int.mul_sub, ← e3, ← e4]; omega
        have d : t ∣ ((k : Int) + 1) * m - (j : Int) * m := ⟨q1 - q2, e5.symm⟩
        have := Int.le_of_dvd (by omega) d
        omega
    · intro n
      constructor
      · rintro ((hn | ⟨j, j1, jk, hj⟩) | hm)
        · exact Or.inl hn
        · exact Or.inr ⟨j, j1, by omega, hj⟩
        · refine Or.inr ⟨k + 1, by omega, by omega, ?_⟩
          rw [e1, ← e2]; exact hm
      · rintro (hn | ⟨j, j1, jk, hj⟩)
        · exact Or.inl (Or.inl hn)
        · by_cases c : j = k + 1
          · subst c
            rw [e1, ← e2] at hj
            exact Or.inr hj
          · exact Or.inl (Or.inr ⟨j, j1, by omega, hj⟩)

/-- the pieces of a range around another one that lies in it -/
theorem acc_sub {l1 h1 m l h t : Int} {dn : Bool} (m1 : 1 ≤ m) (t1 : 1 ≤ t) (le : l ≤ h) (b1 : -1000000 ≤ l1) (b2 : h1 ≤ 1000000) (hl : Mem l1 h1 m l) (hh : Mem l1 h1 m h) (hd : t ∣ h - l) (hd1 : m ∣ h1 - l1) (ht : l < h → m ∣ t) (ht1 : ¬ l < h → t = 1) :
    Acc (fun n => Mem l1 h1 m n ∧ ¬ Mem l h t n) (subL l1 h1 m l h t dn) := by
  have x1 := hl.1
  have x2 := hh.2.1
  have front : Acc (fun n => Mem l1 (l - m) m n) (addP [] l1 (l - m) m dn) := by
    refine ((Acc.nil (P := fun _ => False) (fun _ h => h)).add l1 (l - m) m dn m1 ?_ (fun _ h => h.elim)).iff fun n => ⟨fun h => h.elim (fun f => f.elim) id, Or.inr⟩
    intro _
    obtain ⟨q, hq⟩ := hl.2.2
    exact ⟨⟨q - 1, by rw [Int.mul_sub, ← hq]; omega⟩, by omega, by omega⟩
  have kt : (subK t m : Int) * m < t := by
    unfold subK
    have h0 : 0 ≤ (t - 1) / m := Int.ediv_nonneg (by omega) (by omega)
    rw [show (((t - 1) / m).toNat : Int) = (t - 1) / m by omega]
    have := Int.ediv_mul_le (t - 1) (show m ≠ 0 by omega)
    omega
  have mid := front.mid (dn := dn) (k := subK t m) m1 t1 hd (by omega) (by omega) (fun n hn => by have := hn.2.1; omega) kt
  unfold subL
  refine (mid.add (h + m) h1 m dn m1 ?_ ?_).iff ?_
  · intro _
    obtain ⟨q, hq⟩ := hh.2.2
    obtain ⟨q1, hq1⟩ := hd1
    exact ⟨⟨q1 - q - 1, by rw [Int.mul_sub, Int.mul_sub, ← hq, ← hq1]; omega⟩, by omega, by omega⟩
  · rintro n (hn | ⟨j, j1, jk, hj⟩) hm
    · have := hn.2.1; have := hm.1; omega
    · have jm : (j : Int) * m ≤ (subK t m : Int) * m := mulr_a _ _ _ (by omega) (by omega)
      have := hj.2.1; have := hm.1; omega
  · intro n
    constructor
    · rintro ((hn | ⟨j, j1, jk, hj⟩) | hm)
      · exact ⟨⟨hn.1, by have := hn.2.1; omega, hn.2.2⟩, fun c => by have := c.1; have := hn.2.1; omega⟩
      · have lt : l < h := by
          by_cases c : l < h
          · exact c
          · have e := ht1 c
            rw [e] at kt
            have : 1 * m ≤ (subK t m : Int) * m := mulr_a _ _ _ (by omega) (by omega)
            rw [e] at this
            omega
        have jm : (j : Int) * m ≤ (subK t m : Int) * m := mulr_a _ _ _ (by omega) (by omega)
        have jm0 : 1 * m ≤ (j : Int) * m := mulr_a _ _ _ (by omega) (by omega)
        have y1 := hj.1
        have y2 := hj.2.1
        refine ⟨⟨by omega, by omega, ?_⟩, ?_⟩
        · have d1 : m ∣ n - (l + (j : Int) * m) := Int.dvd_trans (ht lt) hj.2.2
          have d2 : m ∣ (j : Int) * m := Int.dvd_mul_left _ _
          have := Int.dvd_add (Int.dvd_add d1 d2) hl.2.2
          rwa [show n - (l + (j : Int) * m) + (j : Int) * m + (l - l1) = n - l1 by omega] at this
        · intro c
          have := Int.dvd_sub c.2.2 hj.2.2
          rw [show n - l - (n - (l + (j : Int) * m)) = (j : Int) * m by omega] at this
          have := Int.le_of_dvd (by omega) this
          omega
      · refine ⟨⟨by have := hm.1; omega, hm.2.1, ?_⟩, fun c => by have := c.2.1; have := hm.1; omega⟩
        have := Int.dvd_add (Int.dvd_add hm.2.2 (Int.dvd_refl m)) hh.2.2
        rwa [show n - (h + m) + m + (h - l1) = n - l1 by omega] at this
    · rintro ⟨hm, hn⟩
      by_cases c1 : n < l
      · refine Or.inl (Or.inl ⟨hm.1, ?_, hm.2.2⟩)
        have d := Int.dvd_sub hl.2.2 hm.2.2
        rw [show l - l1 - (n - l1) = l - n by omega] at d
        have := Int.le_of_dvd (by omega) d
        omega
      · by_cases c2 : h < n
        · refine Or.inr ⟨?_, hm.2.1, ?_⟩
          · have d := Int.dvd_sub hm.2.2 hh.2.2
            rw [show n - l1 - (h - l1) = n - h by omega] at d
            have := Int.le_of_dvd (by omega) d
            omega
          · have := Int.dvd_sub (Int.dvd_sub hm.2.2 hh.2.2) (Int.dvd_refl m)
            rwa [show n - l1 - (h - l1) - m = n - (h + m) by omega] at this
        · have lt : l < h := by
            by_cases c : l < h
            · exact c
            · exact absurd ⟨by omega, by omega, by rw [show n - l = 0 by omega]; exact Int.dvd_zero _⟩ hn
          have dt := ht lt
          have dn' : m ∣ n - l := by
            have := Int.dvd_sub hm.2.2 hl.2.2
            rwa [show n - l1 - (l - l1) = n - l by omega] at this
          have r0 := Int.emod_nonneg (n - l) (show t ≠ 0 by omega)
          have r1 := Int.emod_lt_of_pos (n - l) (show 0 < t by omega)
          have re := Int.mul_ediv_add_emod (n - l) t
          have rn : ¬ (n - l) % t = 0 := fun e => hn ⟨by omega, by omega, Int.dvd_of_emod_eq_zero e⟩
          have dr : m ∣ (n - l) % t := by
            rw [Int.emod_def]
            exact Int.dvd_sub dn' (Int.dvd_trans dt (Int.dvd_mul_right _ _))
          obtain ⟨j, hj⟩ := dr
          have j0 : 1 ≤ j := by
            by_cases c : 1 ≤ j
            · exact c
            · have : m * j ≤ m * 0 := Int.mul_le_mul_of_nonneg_left (by omega) (by omega)
              omega
          have jk : j ≤ (t - 1) / m := (Int.le_ediv_iff_mul_le (by omega)).2 (by rw [Int.mul_comm]; omega)
          refine Or.inl (Or.inr ⟨j.toNat, by omega, by unfold subK; omega, ?_⟩)
          rw [show ((j.toNat : Nat) : Int) = j by omega, Int.mul_comm j m, ← hj]
          obtain ⟨Q, hQ⟩ := hd
          have lq : (n - l) / t < Q := by
            by_cases c : (n - l) / t < Q
            · exact c
            · have : t * Q ≤ t * ((n - l) / t) := Int.mul_le_mul_of_nonneg_left (by omega) (by omega)
              omega
          have : t * ((n - l) / t) ≤ t * (Q - 1) := Int.mul_le_mul_of_nonneg_left (by omega) (by omega)
          rw [Int.mul_sub] at this
          have q0 : 0 ≤ (n - l) / t := Int.ediv_nonneg (by omega) (by omega)
          have : 0 ≤ t * ((n - l) / t) := Int.mul_nonneg (by omega) q0
          exact ⟨by omega, by omega, ⟨(n - l) / t, by omega⟩⟩

/-- the pieces that Subtract returns have the numbers of the first range alone, each once -/
theorem sub_all {l1 h1 s1 l2 h2 s2 l h s : Int} (hA : chk l1 h1 s1 = 0) (hB : chk l2 h2 s2 = 0) (F : InterF l1 h1 s1 l2 h2 s2 l h s) :
    Acc (fun n => n ∈ (numsL l1 h1 s1).filter (fun n => !posB l2 h2 s2 n)) (subAll l1 h1 s1 l h s) := by
  obtain ⟨hC, hm, _⟩ := F
  have key : ∀ n, n ∈ (numsL l1 h1 s1).filter (fun n => !posB l2 h2 s2 n) ↔ RMem l1 h1 s1 n ∧ ¬ RMem l h s n := by
    intro n
    rw [List.mem_filter, nums_mem hA, hm n, ← posB_iff hB]
    cases posB l2 h2 s2 n <;> simp
  have bA := chk_bounds hA
  have bC := chk_bounds hC
  unfold subAll
  by_cases le : l ≤ h
  · rw [if_pos le]
    have ml := (hm l).1 (rmem_lo le)
    have mh := (hm h).1 (rmem_hi hC le)
    have le1 : l1 ≤ h1 := by have := ml.1.1; have := ml.1.2.1; omega
    refine (acc_sub (dn := decide (s1 < 0)) (by omega) (by omega) le (by omega) (by omega) ml.1 mh.1 ?_ ?_ ?_ ?_).iff fun n => (key n).symm
    · exact (rmem_hi hC le).2.2
    · exact (rmem_hi hA le1).2.2
    · intro lt
      have mn := (hm _).1 (rmem_next hC lt)
      have := Int.dvd_sub mn.1.2.2 ml.1.2.2
      rwa [show l + magA s - l1 - (l - l1) = magA s by omega] at this
    · intro lt
      rcases chk_zero hC with ⟨rfl, rfl, rfl⟩ | ⟨_, _, _, _, _, _, _, _, _, one⟩
      · omega
      · rw [one (by omega)]; rfl
  · rw [if_neg le]
    by_cases le1 : l1 ≤ h1
    · rw [if_pos le1]
      refine ⟨fun x hx => ?_, ?_, fun n => ?_⟩
      · rw [List.mem_singleton] at hx; subst hx; exact ⟨hA, le1⟩
      · simpa [numsAll] using nums_nodup hA
      · rw [key]
        simp only [numsAll, List.flatMap_cons, List.flatMap_nil, List.append_nil, nums_mem hA]
        exact ⟨fun h => ⟨h, rmem_none le⟩, fun h => h.1⟩
    · rw [if_neg le1]
      exact Acc.nil fun n hn => rmem_none le1 ((key n).1 hn).1
theorem sub_perm {l1 h1 s1 l2 h2 s2 : Int} {L : List R3} (hA : chk l1 h1 s1 = 0) (a : Acc (fun n => n ∈ (numsL l1 h1 s1).filter (fun n => !posB l2 h2 s2 n)) L) :
    (numsAll L).Perm ((numsL l1 h1 s1).filter (fun n => !posB l2 h2 s2 n)) :=
  (List.perm_ext_iff_of_nodup a.nodup ((nums_nodup hA).filter _)).2 a.mem
theorem nums_pos {l h s : Int} (hk : chk l h s = 0) (le : l ≤ h) : 1 ≤ (numsL l h s).length := by
  rw [nums_len]; have := (steps_a hk le).2.1; omega
theorem acc_len {P : Int → Prop} : ∀ {L : List R3}, (∀ x ∈ L, chk x.1 x.2.1 x.2.2 = 0 ∧ x.1 ≤ x.2.1) → L.length ≤ (numsAll L).length
  | [], _ => Nat.zero_le _
  | x :: L, h => by
    have ih := acc_len (P := P) (L := L) fun y hy => h y (List.mem_cons_of_mem _ hy)
    have h0 := h x List.mem_cons_self
    have := nums_pos h0.1 h0.2
    show L.length + 1 ≤ (numsL x.1 x.2.1 x.2.2 ++ numsAll L).length
    rw [List.length_append]; omega
theorem numsAll_succ (L : List R3) (k : Nat) (x : R3) (h : L[k]? = some x) : numsAll (L.take (k + 1)) = numsAll (L.take k) ++ numsL x.1 x.2.1 x.2.2 := by
  unfold numsAll
  rw [List.take_add_one, h, List.flatMap_append]
  simp
theorem numsAll_take_le (L : List R3) (k : Nat) : (numsAll (L.take k)).length ≤ (numsAll L).length := by
  conv => rhs; rw [← List.take_append_drop k L]
  unfold numsAll
  rw [List.flatMap_append, List.length_append]
  omega
theorem filter_take_succ (p : Int → Bool) (xs : List Int) (k : Nat) (x : Int) (h : xs[k]? = some x) : (xs.take (k + 1)).filter p = (xs.take k).filter p ++ if p x = true then [x] else [] := by
  rw [List.take_add_one, h, List.filter_append]
  congr 1
  simp [List.filter_cons]
theorem filter_take_le (p : Int → Bool) (xs : List Int) (k : Nat) : ((xs.take k).filter p).length ≤ xs.length :=
  Nat.le_trans (List.length_filter_le _ _) (by simp; omega)
end Go.Proofs.Ytdifilndpilboaa
