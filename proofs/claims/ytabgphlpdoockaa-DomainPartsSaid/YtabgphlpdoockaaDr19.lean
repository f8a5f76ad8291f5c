/-
  Part 19: SetM, MovC, MovM, PPA, PPB.
-/
import Derived.Test.YtabgphlpdoockaaDr3
import Derived.Test.YtabgphlpdoockaaDr5
import Derived.Test.YtabgphlpdoockaaDr7
import Derived.Test.YtabgphlpdoockaaDr8
import Derived.Test.YtabgphlpdoockaaDr14
import Derived.Test.YtabgphlpdoockaaDr17
import Derived.Test.YtabgphlpdoockaaDr18
import Derived.BigQuiet
import Derived.Deep.CutBlock
import Derived.Deep.DeepCutAuto
import Derived.Deep.DrawnRows
import Derived.Deep.LoopGhost
import Derived.Deep.QuietTactic
import Derived.Deep.RegionHeld3
import Derived.Deep.RegionWith
import Derived.Lib.Hide
import Derived.WalkKit
import Derived.WalkLawsBesides
import Derived.WalkSpells
namespace Go.Proofs.Ytabgphlpdoockaa
theorem posB_iff {l h s n : Int} (hk : chk l h s = 0) : posB l h s n = true ↔ RMem l h s n := by
  unfold posB RMem Mem
  rw [decide_eq_true_iff]
  constructor
  · rintro ⟨_, a, b, c⟩; exact ⟨a, b, Int.dvd_of_emod_eq_zero c⟩
  · rintro ⟨a, b, c⟩; exact ⟨hk, a, b, Int.emod_eq_zero_of_dvd c⟩
theorem nums_mem {l h s : Int} (hk : chk l h s = 0) (n : Int) : n ∈ numsL l h s ↔ RMem l h s n := by
  unfold numsL numsU
  rw [List.mem_map]
  constructor
  · rintro ⟨k, hk1, rfl⟩
    have hlt : k < (siz l h s).toNat := by simpa using hk1
    exact (posB_iff hk).1 (nthV_in hk (show (k : Int) < siz l h s by omega)).1
  · intro hm
    have le : l ≤ h := by have := hm.1; have := hm.2.1; omega
    obtain ⟨st, z, m1, s0⟩ := steps_a hk le
    obtain ⟨q, hq⟩ := hm.2.2
    have h1 := hm.1
    have h2 := hm.2.1
    have q0 : 0 ≤ q := by
      by_cases c : 0 ≤ q
      · exact c
      · have : magA s * q ≤ magA s * (-1) := Int.mul_le_mul_of_nonneg_left (by omega) (by omega)
        omega
    have q1 : q ≤ siz l h s - 1 := by
      by_cases c : q ≤ siz l h s - 1
      · exact c
      · have : (siz l h s - 1 + 1) * magA s ≤ q * magA s := mulr_a _ _ _ (by omega) (by omega)
        rw [Int.add_mul] at this
        rw [Int.mul_comm] at hq
        omega
    by_cases c : s < 0
    · refine ⟨(siz l h s - 1 - q).toNat, by simp; omega, ?_⟩
      unfold nthV
      rw [if_pos c, show (((siz l h s - 1 - q).toNat : Nat) : Int) = siz l h s - 1 - q by omega, Int.sub_mul, ← st, Int.mul_comm q, ← hq]
      omega
    · refine ⟨q.toNat, by simp; omega, ?_⟩
      unfold nthV
      rw [if_neg c, show ((q.toNat : Nat) : Int) = q by omega, Int.mul_comm, ← hq]
      omega
theorem nums_up {l h s : Int} (hk : chk l h s = 0) (hs : ¬ s < 0) : (numsL l h s).Pairwise (· < ·) := by
  have bA := chk_bounds hk
  unfold numsL numsU
  rw [List.pairwise_map]
  refine List.Pairwise.imp ?_ List.pairwise_lt_range
  intro i j hij
  unfold nthV
  rw [if_neg hs, if_neg hs]
  have : ((i : Int) + 1) * magA s ≤ (j : Int) * magA s := mulr_a _ _ _ (by omega) (by omega)
  rw [Int.add_mul] at this
  omega
theorem nums_down {l h s : Int} (hk : chk l h s = 0) (hs : s < 0) : (numsL l h s).Pairwise (· > ·) := by
  have bA := chk_bounds hk
  unfold numsL numsU
  rw [List.pairwise_map]
  refine List.Pairwise.imp ?_ List.pairwise_lt_range
  intro i j hij
  unfold nthV
  rw [if_pos hs, if_pos hs]
  have : ((i : Int) + 1) * magA s ≤ (j : Int) * magA s := mulr_a _ _ _ (by omega) (by omega)
  rw [Int.add_mul] at this
  show _ > _
  omega
theorem nums_nodup {l h s : Int} (hk : chk l h s = 0) : (numsL l h s).Nodup := by
  by_cases c : s < 0
  · exact (nums_down hk c).imp fun h => by omega
  · exact (nums_up hk c).imp fun h => by omega
theorem nums_len (l h s : Int) : (numsL l h s).length = (siz l h s).toNat := numsL_length l h s
theorem nums_one {l h s : Int} (hk : chk l h s = 0) (c : ¬ l < h) : (numsL l h s).length ≤ 1 := by
  rw [nums_len]
  by_cases le : l ≤ h
  · rw [siz_ok hk le, show h - l = 0 by omega]; simp
  · rw [empty_a hk le]; simp
/-- the order of a range with a direction -/
theorem nums_dir {l h s : Int} (hk : chk l h s = 0) (d : Bool) (hd : l < h → (s < 0 ↔ d = true)) : (numsL l h s).Pairwise (fun x y => if d = true then x > y else x < y) := by
  by_cases c : l < h
  · cases d
    · exact (nums_up hk (fun e => by simpa using (hd c).1 e)).imp fun h => by simpa using h
    · exact (nums_down hk ((hd c).2 rfl)).imp fun h => by simpa using h
  · match hL : numsL l h s, nums_one hk c with
    | [], _ => exact List.Pairwise.nil
    | [x], _ => exact List.pairwise_singleton _ _
/-- what two ranges have in common are the numbers of the first one that are in the second one, in its order -/
theorem nums_inter {l1 h1 s1 l2 h2 s2 l h s : Int} (hA : chk l1 h1 s1 = 0) (hB : chk l2 h2 s2 = 0) (hC : chk l h s = 0) (hm : ∀ n, RMem l h s n ↔ RMem l1 h1 s1 n ∧ RMem l2 h2 s2 n) (hd : l < h → (s < 0 ↔ s1 < 0)) :
    numsL l h s = (numsL l1 h1 s1).filter (fun n => posB l2 h2 s2 n) := by
  refine List.Perm.eq_of_pairwise (le := fun x y => if decide (s1 < 0) = true then x > y else x < y) ?_ (nums_dir hC (decide (s1 < 0)) (fun c => by simpa using hd c)) ((nums_dir hA (decide (s1 < 0)) (fun _ => by simp)).filter _) ?_
  · intro a b _ _ x y
    split at x <;> rename_i c
    · rw [if_pos c] at y; omega
    · rw [if_neg c] at y; omega
  · refine (List.perm_ext_iff_of_nodup (nums_nodup hC) ((nums_nodup hA).filter _)).2 fun n => ?_
    rw [List.mem_filter, nums_mem hC, nums_mem hA, posB_iff hB]
    exact hm n
/-- the numbers of a list of ranges -/
def numsAll (L : List R3) : List Int := L.flatMap fun x => numsL x.1 x.2.1 x.2.2
/-- a list of right ranges that are not empty, that have no number twice, and just the numbers of which P holds -/
structure Acc (P : Int → Prop) (L : List R3) : Prop where
  ok : ∀ x ∈ L, chk x.1 x.2.1 x.2.2 = 0 ∧ x.1 ≤ x.2.1
  nodup : (numsAll L).Nodup
  mem : ∀ n, n ∈ numsAll L ↔ P n
theorem Acc.nil {P : Int → Prop} (h : ∀ n, ¬ P n) : Acc P [] := ⟨fun _ hx => (by cases hx), List.nodup_nil, fun n => ⟨fun hx => (by cases hx), fun hx => absurd hx (h n)⟩⟩
theorem Acc.iff {P Q : Int → Prop} {L : List R3} (a : Acc P L) (h : ∀ n, P n ↔ Q n) : Acc Q L := ⟨a.ok, a.nodup, fun n => (a.mem n).trans (h n)⟩
theorem nrm_le' {lo hi st : Int} {dn : Bool} (c : lo ≤ hi) : (nrm lo hi st dn).1 = lo ∧ (nrm lo hi st dn).2.1 = hi := by
  unfold nrm nL nH; simp; exact ⟨fun _ => by omega, fun _ => by omega⟩
theorem nrm_mem {lo hi st : Int} {dn : Bool} (c : lo ≤ hi) (h1 : 1 ≤ st) (n : Int) : RMem (nrm lo hi st dn).1 (nrm lo hi st dn).2.1 (nrm lo hi st dn).2.2 n ↔ Mem lo hi st n := by
  obtain ⟨e1, e2⟩ := nrm_le' (st := st) (dn := dn) c
  unfold RMem
  rw [e1, e2]
  unfold nrm nS Mem
  simp only
  rw [if_neg (by omega)]
  by_cases e : lo = hi
  · subst e
    rw [if_pos rfl]
    constructor
    · rintro ⟨a, b, _⟩; exact ⟨a, b, by rw [show n - lo = 0 by omega]; exact Int.dvd_zero _⟩
    · rintro ⟨a, b, _⟩; exact ⟨a, b, by rw [show n - lo = 0 by omega]; exact Int.dvd_zero _⟩
  · rw [if_neg e]
    have : magA (if dn = true then -st else st) = st := by
      unfold magA; split <;> split <;> omega
    rw [this]
theorem Acc.add {P : Int → Prop} {L : List R3} (a : Acc P L) (lo hi st : Int) (dn : Bool) (h1 : 1 ≤ st) (hb : lo ≤ hi → (st ∣ hi - lo) ∧ -1000000 ≤ lo ∧ hi ≤ 1000000) (hn : ∀ n, P n → ¬ Mem lo hi st n) : Acc (fun n => P n ∨ Mem lo hi st n) (addP L lo hi st dn) := by
  unfold addP
  by_cases c : lo ≤ hi
  · rw [if_pos c]
    obtain ⟨b1, b2, b3⟩ := hb c
    have ck : chk (nrm lo hi st dn).1 (nrm lo hi st dn).2.1 (nrm lo hi st dn).2.2 = 0 := by
      have := chk_nrm lo hi st dn c h1 (Int.emod_eq_zero_of_dvd b1)
      rw [if_neg (by omega)] at this
      exact this
    have e : numsAll (L ++ [nrm lo hi st dn]) = numsAll L ++ numsL (nrm lo hi st dn).1 (nrm lo hi st dn).2.1 (nrm lo hi st dn).2.2 := by
      unfold numsAll; rw [List.flatMap_append]; simp
    refine ⟨?_, ?_, ?_⟩
    · intro x hx
      rw [List.mem_append, List.mem_singleton] at hx
      rcases hx with hx | rfl
      · exact a.ok x hx
      · exact ⟨ck, by rw [(nrm_le' c).1, (nrm_le' c).2]; exact c⟩
    · rw [e, List.nodup_append]
      refine ⟨a.nodup, nums_nodup ck, fun x hx y hy exy => ?_⟩
      subst exy
      exact hn x ((a.mem x).1 hx) ((nrm_mem c h1 x).1 ((nums_mem ck x).1 hy))
    · intro n
      rw [e, List.mem_append, a.mem, nums_mem ck, nrm_mem c h1]
  · rw [if_neg c]
    exact a.iff fun n => ⟨Or.inl, fun h => h.elim id fun m => absurd (Int.le_trans m.1 m.2.1) c⟩
end Go.Proofs.Ytabgphlpdoockaa
namespace Go.Proofs.Ytabgphlpdoockaa
open Go.RowKit
theorem clampI_nearM (n : Int) (h1 : -2000000 ≤ n) (h2 : n ≤ 2000000) : clampI n = n := by unfold clampI; rw [if_neg (by omega), if_neg (by omega)]
theorem sub_mod_stepM (a k m : Int) (h : a % m = 0) : (a + k * m) % m = 0 := by rw [Int.add_mul_emod_self_right]; exact h
theorem prod_bdM (c m : Int) (h1 : -2000001 ≤ c) (h2 : c ≤ 2000001) (m0 : 1 ≤ m) (m1 : m ≤ 2000000) : -5000000000000 ≤ c * m ∧ c * m ≤ 5000000000000 := by
  have e1 : -2000001 * m ≤ c * m := Int.mul_le_mul_of_nonneg_right h1 (by omega)
  have e2 : c * m ≤ 2000001 * m := Int.mul_le_mul_of_nonneg_right h2 (by omega)
  omega
theorem expandOkM (l h s n : Int) (hk : chk l h s = 0) (hle : l ≤ h) (hc : chk (nL (l - clampI n * magA s) (h + clampI n * magA s)) (nH (l - clampI n * magA s) (h + clampI n * magA s)) (nS (l - clampI n * magA s) (h + clampI n * magA s) (magA s) (decide (s < 0))) = 0) :
    Ret4 37 l h s n (nL (l - clampI n * magA s) (h + clampI n * magA s)) (nH (l - clampI n * magA s) (h + clampI n * magA s)) (nS (l - clampI n * magA s) (h + clampI n * magA s) (magA s) (decide (s < 0))) 0 := by
  obtain ⟨b1, b2, b3, b4, b5, b6, b7, b8⟩ := chk_bounds hk
  have cb := clampI_bd n
  have pb := prod_bdM (clampI n) (magA s) cb.1 cb.2 b7 b8
  exact wrapExpand l h s n _ _ _ _ (Lib.hid fun b0 o w hw => moved_Expand b0 o _ l h s _ _ _ _ w hk hle hw (fun w' hw' => exClo l h _ (clampI n) _ b0 o w' hw' pb.1 pb.2 (by omega) (by omega) (by omega) (by omega) (by omega) (by omega) cb.1 cb.2) ⟨by omega, by omega⟩ ⟨by omega, by omega⟩ (by omega) (by omega) hc)
theorem expandBadM (l h s n : Int) (hk : chk l h s = 0) (hle : l ≤ h) (hc : chk (nL (l - clampI n * magA s) (h + clampI n * magA s)) (nH (l - clampI n * magA s) (h + clampI n * magA s)) (nS (l - clampI n * magA s) (h + clampI n * magA s) (magA s) (decide (s < 0))) = 4) :
    Ret4 37 l h s n 0 0 0 4 := by
  obtain ⟨b1, b2, b3, b4, b5, b6, b7, b8⟩ := chk_bounds hk
  have cb := clampI_bd n
  have pb := prod_bdM (clampI n) (magA s) cb.1 cb.2 b7 b8
  exact wrapExpand l h s n _ _ _ _ (Lib.hid fun b0 o w hw => movedBad_Expand b0 o _ l h s _ _ _ _ w hk hle hw (fun w' hw' => exClo l h _ (clampI n) _ b0 o w' hw' pb.1 pb.2 (by omega) (by omega) (by omega) (by omega) (by omega) (by omega) cb.1 cb.2) ⟨by omega, by omega⟩ ⟨by omega, by omega⟩ (by omega) (by omega) hc)
end Go.Proofs.Ytabgphlpdoockaa
namespace Go.Proofs.Ytabgphlpdoockaa
open Go.RowKit
/-- a range that is not empty is the normal one with its ends, its step and its direction -/
theorem one_of {l h s : Int} (hk : chk l h s = 0) (e : l = h) : s = 1 := by
  rcases chk_zero hk with ⟨_, _, rfl⟩ | ⟨_, _, _, _, _, _, _, _, _, one⟩
  · rfl
  · exact one e
theorem nS_of {s : Int} (lo hi : Int) (h1 : lo ≤ hi) (h2 : lo = hi → s = 1) : nS lo hi (magA s) (decide (s < 0)) = s := by
  unfold nS
  rw [if_neg (by omega)]
  by_cases e : lo = hi
  · rw [if_pos e, h2 e]
  · rw [if_neg e]
    unfold magA
    by_cases c : s < 0
    · simp [c]
    · simp [c]
theorem nLH {lo hi : Int} (h : lo ≤ hi) : nL lo hi = lo ∧ nH lo hi = hi := ⟨if_neg (by omega), if_neg (by omega)⟩
/-- a range with other ends, as far apart by steps_a -/
theorem chk_ends {l h s : Int} (hk : chk l h s = 0) (hle : l ≤ h) (lo hi : Int) (h1 : lo ≤ hi) (h2 : lo = hi → s = 1) (hd : magA s ∣ hi - lo) : chk lo hi s = if lo < -1000000 ∨ 1000000 < hi then 4 else 0 := by
  have c := chk_nrm lo hi (magA s) (decide (s < 0)) h1 (steps_a hk hle).2.2.1 (Int.emod_eq_zero_of_dvd hd)
  rw [(nLH h1).1, (nLH h1).2, nS_of lo hi h1 h2] at c
  exact c
theorem siz_ends {l h s : Int} (hk : chk l h s = 0) (hle : l ≤ h) (lo hi : Int) (hc : chk lo hi s = 0) (h1 : lo ≤ hi) (c : Int) (he : hi - lo = (siz l h s - 1 + c) * magA s) : siz lo hi s = siz l h s + c := by
  obtain ⟨st, z, m1, s0⟩ := steps_a hk hle
  rw [siz_ok hc h1, he, Int.mul_ediv_cancel _ (by omega)]; omega
/-- Translate of a range that is not empty -/
theorem transOk (l h s n : Int) (hk : chk l h s = 0) (hle : l ≤ h) (n1 : -2000000 ≤ n) (n2 : n ≤ 2000000) (out : ¬ (l + n < -1000000 ∨ 1000000 < h + n)) : Ret4 35 l h s n (l + n) (h + n) s 0 := by
  obtain ⟨st, z1, m1, s0⟩ := steps_a hk hle
  obtain ⟨b1, b2, b3, b4, b5, b6, b7, b8⟩ := chk_bounds hk
  have hm : (h + n - (l + n)) % magA s = 0 := by rw [show h + n - (l + n) = h - l by omega, st]; exact Int.mul_emod_left _ _
  have hc := chk_nrm (l + n) (h + n) (magA s) (decide (s < 0)) (by omega) m1 hm
  rw [if_neg out] at hc
  have cn := clampI_nearM n n1 n2
  have r := wrapTranslate l h s n _ _ _ _ (Lib.hid (show MovedTo _ l h s (clampI n) _ _ _ _ from fun b0 o w hw => moved_Translate b0 o _ l h s _ _ _ _ w hk hle hw (fun w' hw' => trClo l h _ (clampI n) _ b0 o w' hw' (by omega) (by omega) (by omega) (by omega) (by omega) (by omega)) ⟨by omega, by omega⟩ ⟨by omega, by omega⟩ (by omega) (by omega) (by rw [cn]; exact hc)))
  rw [cn, (nLH (show l + n ≤ h + n by omega)).1, (nLH (show l + n ≤ h + n by omega)).2, nS_of (l + n) (h + n) (by omega) (fun e => one_of hk (by omega))] at r
  exact r
theorem transBad (l h s n : Int) (hk : chk l h s = 0) (hle : l ≤ h) (n1 : -2000000 ≤ n) (n2 : n ≤ 2000000) (out : l + n < -1000000 ∨ 1000000 < h + n) : Ret4 35 l h s n 0 0 0 4 := by
  obtain ⟨st, z1, m1, s0⟩ := steps_a hk hle
  obtain ⟨b1, b2, b3, b4, b5, b6, b7, b8⟩ := chk_bounds hk
  have hm : (h + n - (l + n)) % magA s = 0 := by rw [show h + n - (l + n) = h - l by omega, st]; exact Int.mul_emod_left _ _
  have hc := chk_nrm (l + n) (h + n) (magA s) (decide (s < 0)) (by omega) m1 hm
  rw [if_pos out] at hc
  have cn := clampI_nearM n n1 n2
  exact wrapTranslate l h s n _ _ _ _ (Lib.hid fun b0 o w hw => movedBad_Translate b0 o _ l h s _ _ _ _ w hk hle hw (fun w' hw' => trClo l h _ (clampI n) _ b0 o w' hw' (by omega) (by omega) (by omega) (by omega) (by omega) (by omega)) ⟨by omega, by omega⟩ ⟨by omega, by omega⟩ (by omega) (by omega) (by rw [cn]; exact hc))
/-- Expand of a range that is not empty, where it stays one -/
theorem expOk (l h s n : Int) (hk : chk l h s = 0) (hle : l ≤ h) (n1 : -2000000 ≤ n) (n2 : n ≤ 2000000) (le : l - n * magA s ≤ h + n * magA s) (eq : l - n * magA s = h + n * magA s → s = 1) (out : ¬ (l - n * magA s < -1000000 ∨ 1000000 < h + n * magA s)) :
    Ret4 37 l h s n (l - n * magA s) (h + n * magA s) s 0 := by
  obtain ⟨st, z1, m1, s0⟩ := steps_a hk hle
  have hm : (h + n * magA s - (l - n * magA s)) % magA s = 0 := by
    rw [show h + n * magA s - (l - n * magA s) = (h - l) + (n + n) * magA s by rw [Int.add_mul]; omega, st]
    exact sub_mod_stepM _ _ _ (Int.mul_emod_left _ _)
  have hc := chk_nrm _ _ (magA s) (decide (s < 0)) le m1 hm
  rw [if_neg out] at hc
  have cn := clampI_nearM n n1 n2
  have r := expandOkM l h s n hk hle (by rw [cn]; exact hc)
  rw [cn, (nLH le).1, (nLH le).2, nS_of _ _ le eq] at r
  exact r
theorem siz_exp (l h s n : Int) (hk : chk l h s = 0) (hle : l ≤ h) (n1 : 0 ≤ n) (hc : chk (l - n * magA s) (h + n * magA s) s = 0) : siz (l - n * magA s) (h + n * magA s) s = siz l h s + 2 * n := by
  obtain ⟨st, z1, m1, s0⟩ := steps_a hk hle
  have p0 : 0 ≤ n * magA s := Int.mul_nonneg n1 (by omega)
  refine siz_ends hk hle _ _ hc (by omega) (2 * n) ?_
  rw [Int.add_mul, ← st, Int.mul_assoc]; omega
theorem exp_within (l h s n : Int) (hk : chk l h s = 0) (hle : l ≤ h) (n1 : 0 ≤ n) : ∀ x, RMem l h s x → RMem (l - n * magA s) (h + n * magA s) s x := by
  obtain ⟨st, z1, m1, s0⟩ := steps_a hk hle
  have p0 : 0 ≤ n * magA s := Int.mul_nonneg n1 (by omega)
  rintro x ⟨h1, h2, h3⟩
  refine ⟨by omega, by omega, ?_⟩
  rw [show x - (l - n * magA s) = (x - l) + n * magA s by omega]
  exact Int.dvd_add h3 (Int.dvd_mul_left _ _)
end Go.Proofs.Ytabgphlpdoockaa
namespace Go.Proofs.Ytabgphlpdoockaa
open Go.RowKit
theorem mv_ofP {f : FuncId} {P : R3 → Int → R3 × Int → Prop} (h : ∀ (x : R3) (n : Int), ∃ q : R3 × Int, (I64 x.1 → I64 x.2.1 → I64 x.2.2 → I64 n → Ret4 f x.1 x.2.1 x.2.2 n q.1.1 q.1.2.1 q.1.2.2 q.2) ∧ P x n q) : ∃ g : Mv, MvOk f g ∧ ∀ x n, P x n (g x n) := by
  have h' : ∀ p : R3 × Int, ∃ q : R3 × Int, (I64 p.1.1 → I64 p.1.2.1 → I64 p.1.2.2 → I64 p.2 → Ret4 f p.1.1 p.1.2.1 p.1.2.2 p.2 q.1.1 q.1.2.1 q.1.2.2 q.2) ∧ P p.1 p.2 q := fun p => h p.1 p.2
  obtain ⟨q, hq⟩ := Classical.axiomOfChoice h'
  exact ⟨fun x n => q (x, n), fun x n => (hq (x, n)).1, fun x n => (hq (x, n)).2⟩
theorem pair_some {f f' : FuncId} {P : R3 → Int → R3 × Int → Prop} (h : ∀ l h s n : Int, I64 l → I64 h → I64 s → I64 n → Pair f f' l h s n) (x : R3) (n : Int) (hP : ∀ q, P x n q) :
    ∃ q : R3 × Int, (I64 x.1 → I64 x.2.1 → I64 x.2.2 → I64 n → Ret4 f x.1 x.2.1 x.2.2 n q.1.1 q.1.2.1 q.1.2.2 q.2) ∧ P x n q := by
  by_cases c : I64 x.1 ∧ I64 x.2.1 ∧ I64 x.2.2 ∧ I64 n
  · obtain ⟨a, b, c', e, r1, _⟩ := h x.1 x.2.1 x.2.2 n c.1 c.2.1 c.2.2.1 c.2.2.2
    exact ⟨((a, b, c'), e), fun _ _ _ _ => r1, hP _⟩
  · exact ⟨((0, 0, 0), 0), fun a b c' d => absurd ⟨a, b, c', d⟩ c, hP _⟩
/-- a range with numbers, and a small number -/
def Good (x : R3) (n : Int) : Prop := chk x.1 x.2.1 x.2.2 = 0 ∧ x.1 ≤ x.2.1 ∧ -20 ≤ n ∧ n ≤ 20
def TrG (x : R3) (n : Int) (q : R3 × Int) : Prop := Good x n → if x.1 + n < -1000000 ∨ 1000000 < x.2.1 + n then q.2 = 4 else q = ((x.1 + n, x.2.1 + n, x.2.2), 0)
theorem mvTr : ∃ g : Mv, MvOk 35 g ∧ ∀ x n, TrG x n (g x n) := mv_ofP fun x n => by
  by_cases g : Good x n
  · by_cases out : x.1 + n < -1000000 ∨ 1000000 < x.2.1 + n
    · exact ⟨((0, 0, 0), 4), fun _ _ _ _ => transBad _ _ _ _ g.1 g.2.1 (by have := g.2.2.1; omega) (by have := g.2.2.2; omega) out, fun _ => by rw [if_pos out]⟩
    · exact ⟨((x.1 + n, x.2.1 + n, x.2.2), 0), fun _ _ _ _ => transOk _ _ _ _ g.1 g.2.1 (by have := g.2.2.1; omega) (by have := g.2.2.2; omega) out, fun _ => by rw [if_neg out]⟩
  · exact pair_some pairTranslate x n (fun q h => absurd h g)
def ExG (x : R3) (n : Int) (q : R3 × Int) : Prop := Good x n → x.1 - n * magA x.2.2 ≤ x.2.1 + n * magA x.2.2 → (x.1 - n * magA x.2.2 = x.2.1 + n * magA x.2.2 → x.2.2 = 1) →
  if x.1 - n * magA x.2.2 < -1000000 ∨ 1000000 < x.2.1 + n * magA x.2.2 then q.2 = 4 else q = ((x.1 - n * magA x.2.2, x.2.1 + n * magA x.2.2, x.2.2), 0)
theorem mvEx : ∃ g : Mv, MvOk 37 g ∧ ∀ x n, ExG x n (g x n) := mv_ofP fun x n => by
  by_cases g : Good x n ∧ x.1 - n * magA x.2.2 ≤ x.2.1 + n * magA x.2.2 ∧ (x.1 - n * magA x.2.2 = x.2.1 + n * magA x.2.2 → x.2.2 = 1)
  · obtain ⟨⟨hk, hle, n1, n2⟩, le, eq⟩ := g
    obtain ⟨st, z1, m1, s0⟩ := steps_a hk hle
    have d : magA x.2.2 ∣ x.2.1 + n * magA x.2.2 - (x.1 - n * magA x.2.2) := by
      rw [show x.2.1 + n * magA x.2.2 - (x.1 - n * magA x.2.2) = (x.2.1 - x.1) + (n + n) * magA x.2.2 by rw [Int.add_mul]; omega]
      exact Int.dvd_add (rmem_hi hk hle).2.2 (Int.dvd_mul_left _ _)
    by_cases out : x.1 - n * magA x.2.2 < -1000000 ∨ 1000000 < x.2.1 + n * magA x.2.2
    · have cn := clampI_nearM n (by omega) (by omega)
      have hc := chk_nrm _ _ (magA x.2.2) (decide (x.2.2 < 0)) le m1 (Int.emod_eq_zero_of_dvd d)
      rw [if_pos out] at hc
      exact ⟨((0, 0, 0), 4), fun _ _ _ _ => expandBadM _ _ _ n hk hle (by rw [cn]; exact hc), fun _ _ _ => by rw [if_pos out]⟩
    · exact ⟨((x.1 - n * magA x.2.2, x.2.1 + n * magA x.2.2, x.2.2), 0), fun _ _ _ _ => expOk _ _ _ n hk hle (by omega) (by omega) le eq out, fun _ _ _ => by rw [if_neg out]⟩
  · exact pair_some pairExpand x n (fun q a b c => absurd ⟨a, b, c⟩ g)
theorem nS_false_asc {lo hi st : Int} (h : 0 ≤ st) : ¬ nS lo hi st false < 0 := by
  unfold nS
  split
  · omega
  · split
    · omega
    · simp; omega
def InG (x : R3) (n : Int) (q : R3 × Int) : Prop := Good x n → ¬ n = 0 → q.2 = 0 → chk q.1.1 q.1.2.1 q.1.2.2 = 0 ∧ (¬ x.2.2 < 0 → ¬ q.1.2.2 < 0) ∧ ∀ y, RMem q.1.1 q.1.2.1 q.1.2.2 y → RMem x.1 x.2.1 x.2.2 y
theorem mvIn : ∃ g : Mv, MvOk 39 g ∧ ∀ x n, InG x n (g x n) := mv_ofP fun x n => by
  by_cases g : Good x n ∧ ¬ n = 0
  · obtain ⟨⟨hk, hle, n1, n2⟩, nz⟩ := g
    obtain ⟨st, z1, m1, s0⟩ := steps_a hk hle
    obtain ⟨b1, b2, b3, b4, b5, b6, b7, b8⟩ := chk_bounds hk
    by_cases big : siz x.1 x.2.1 x.2.2 < n ∨ n < -siz x.1 x.2.1 x.2.2
    · exact ⟨((0, 0, 0), 5), fun _ _ _ _ => interiorCount _ _ _ n (Lib.hid hk) big, fun _ _ h => by simp at h⟩
    · have fin : ∀ lo hi : Int, lo ≤ hi → x.1 ≤ lo → hi ≤ x.2.1 → magA x.2.2 ∣ hi - lo → magA x.2.2 ∣ lo - x.1 →
          chk (nL lo hi) (nH lo hi) (nS lo hi (magA x.2.2) (decide (x.2.2 < 0))) = 0 ∧ (¬ x.2.2 < 0 → ¬ nS lo hi (magA x.2.2) (decide (x.2.2 < 0)) < 0) ∧
          ∀ y, RMem (nL lo hi) (nH lo hi) (nS lo hi (magA x.2.2) (decide (x.2.2 < 0))) y → RMem x.1 x.2.1 x.2.2 y := by
        intro lo hi le a1 a2 d d2
        have hc := chk_nrm lo hi (magA x.2.2) (decide (x.2.2 < 0)) le m1 (Int.emod_eq_zero_of_dvd d)
        rw [if_neg (by omega)] at hc
        refine ⟨hc, fun s => ?_, fun y hy => ?_⟩
        · rw [show decide (x.2.2 < 0) = false by simp; omega]; exact nS_false_asc (by omega)
        · have := (nrm_mem (dn := decide (x.2.2 < 0)) le m1 y).1 hy
          obtain ⟨y1, y2, y3⟩ := this
          refine ⟨by omega, by omega, ?_⟩
          rw [show y - x.1 = (y - lo) + (lo - x.1) by omega]
          exact Int.dvd_add y3 d2
      by_cases up : 0 < n
      · have c1 : (n - 1) * magA x.2.2 ≤ (siz x.1 x.2.1 x.2.2 - 1) * magA x.2.2 := mulr_a _ _ _ (by omega) (by omega)
        have c0 : 0 ≤ (n - 1) * magA x.2.2 := Int.mul_nonneg (by omega) (by omega)
        have f := fin (x.2.1 - (n - 1) * magA x.2.2) x.2.1 (by omega) (by omega) (by omega) (by rw [show x.2.1 - (x.2.1 - (n - 1) * magA x.2.2) = (n - 1) * magA x.2.2 by omega]; exact Int.dvd_mul_left _ _)
          (by rw [show x.2.1 - (n - 1) * magA x.2.2 - x.1 = (x.2.1 - x.1) - (n - 1) * magA x.2.2 by omega]; exact Int.dvd_sub (rmem_hi hk hle).2.2 (Int.dvd_mul_left _ _))
        exact ⟨((_, _, _), 0), fun _ _ _ _ => intUp _ _ _ n hk hle up (by omega), fun _ _ _ => f⟩
      · have c1 : (-n - 1) * magA x.2.2 ≤ (siz x.1 x.2.1 x.2.2 - 1) * magA x.2.2 := mulr_a _ _ _ (by omega) (by omega)
        have c0 : 0 ≤ (-n - 1) * magA x.2.2 := Int.mul_nonneg (by omega) (by omega)
        have f := fin x.1 (x.1 + (-n - 1) * magA x.2.2) (by omega) (by omega) (by omega) (by rw [show x.1 + (-n - 1) * magA x.2.2 - x.1 = (-n - 1) * magA x.2.2 by omega]; exact Int.dvd_mul_left _ _)
          (by rw [Int.sub_self]; exact Int.dvd_zero _)
        exact ⟨((_, _, _), 0), fun _ _ _ _ => intDown _ _ _ n hk hle (by omega) (by omega), fun _ _ _ => f⟩
  · exact pair_some pairInterior x n (fun q a b => absurd ⟨a, b⟩ g)
def XtG (x : R3) (n : Int) (q : R3 × Int) : Prop := Good x n → ¬ n = 0 → q.2 = 0 → chk q.1.1 q.1.2.1 q.1.2.2 = 0 ∧ (¬ x.2.2 < 0 → ¬ q.1.2.2 < 0) ∧ ∀ y, ¬ (RMem q.1.1 q.1.2.1 q.1.2.2 y ∧ RMem x.1 x.2.1 x.2.2 y)
theorem mvXt : ∃ g : Mv, MvOk 41 g ∧ ∀ x n, XtG x n (g x n) := mv_ofP fun x n => by
  by_cases g : Good x n ∧ ¬ n = 0
  · obtain ⟨⟨hk, hle, n1, n2⟩, nz⟩ := g
    obtain ⟨st, z1, m1, s0⟩ := steps_a hk hle
    have cn := clampI_nearM n (by omega) (by omega)
    by_cases up : 0 < n
    · have lem : 1 * magA x.2.2 ≤ n * magA x.2.2 := mulr_a _ _ _ (by omega) (by omega)
      have le : x.2.1 + magA x.2.2 ≤ x.2.1 + n * magA x.2.2 := by omega
      have d : magA x.2.2 ∣ x.2.1 + n * magA x.2.2 - (x.2.1 + magA x.2.2) := by
        rw [show x.2.1 + n * magA x.2.2 - (x.2.1 + magA x.2.2) = (n - 1) * magA x.2.2 by rw [Int.sub_mul]; omega]
        exact Int.dvd_mul_left _ _
      have hc := chk_nrm _ _ (magA x.2.2) (decide (x.2.2 < 0)) le m1 (Int.emod_eq_zero_of_dvd d)
      by_cases out : x.2.1 + magA x.2.2 < -1000000 ∨ 1000000 < x.2.1 + n * magA x.2.2
      · rw [if_pos out] at hc
        exact ⟨((0, 0, 0), 4), fun _ _ _ _ => exteriorUp _ _ _ n 0 0 0 4 hk hle (by rw [cn]; omega) (Or.inr ⟨rfl, rfl, rfl, rfl, by rw [cn]; exact hc⟩), fun _ _ h => by simp at h⟩
      · rw [if_neg out] at hc
        have r := exteriorUp x.1 x.2.1 x.2.2 n _ _ _ _ hk hle (by rw [cn]; omega) (Or.inl ⟨rfl, rfl, rfl, rfl, by rw [cn]; exact hc⟩)
        rw [cn] at r
        refine ⟨((_, _, _), 0), fun _ _ _ _ => r, fun _ _ _ => ⟨hc, fun s => ?_, fun y hy => ?_⟩⟩
        · show ¬ nS _ _ _ (decide (x.2.2 < 0)) < 0
          rw [show decide (x.2.2 < 0) = false by simp; omega]; exact nS_false_asc (by omega)
        · have h1 := (nrm_mem (dn := decide (x.2.2 < 0)) le m1 y).1 hy.1
          have h2 := hy.2
          have := h1.1
          have := h2.2.1
          omega
    · have lem : 1 * magA x.2.2 ≤ -n * magA x.2.2 := mulr_a _ _ _ (by omega) (by omega)
      rw [Int.neg_mul] at lem
      have le : x.1 + n * magA x.2.2 ≤ x.1 - magA x.2.2 := by omega
      have d : magA x.2.2 ∣ x.1 - magA x.2.2 - (x.1 + n * magA x.2.2) := by
        rw [show x.1 - magA x.2.2 - (x.1 + n * magA x.2.2) = (-n - 1) * magA x.2.2 by rw [Int.sub_mul, Int.neg_mul]; omega]
        exact Int.dvd_mul_left _ _
      have hc := chk_nrm _ _ (magA x.2.2) (decide (x.2.2 < 0)) le m1 (Int.emod_eq_zero_of_dvd d)
      by_cases out : x.1 + n * magA x.2.2 < -1000000 ∨ 1000000 < x.1 - magA x.2.2
      · rw [if_pos out] at hc
        exact ⟨((0, 0, 0), 4), fun _ _ _ _ => exteriorDown _ _ _ n 0 0 0 4 hk hle (by rw [cn]; omega) (Or.inr ⟨rfl, rfl, rfl, rfl, by rw [cn]; exact hc⟩), fun _ _ h => by simp at h⟩
      · rw [if_neg out] at hc
        have r := exteriorDown x.1 x.2.1 x.2.2 n _ _ _ _ hk hle (by rw [cn]; omega) (Or.inl ⟨rfl, rfl, rfl, rfl, by rw [cn]; exact hc⟩)
        rw [cn] at r
        refine ⟨((_, _, _), 0), fun _ _ _ _ => r, fun _ _ _ => ⟨hc, fun s => ?_, fun y hy => ?_⟩⟩
        · show ¬ nS _ _ _ (decide (x.2.2 < 0)) < 0
          rw [show decide (x.2.2 < 0) = false by simp; omega]; exact nS_false_asc (by omega)
        · have h1 := (nrm_mem (dn := decide (x.2.2 < 0)) le m1 y).1 hy.1
          have h2 := hy.2
          have := h1.2.1
          have := h2.1
          omega
  · exact pair_some pairExterior x n (fun q a b => absurd ⟨a, b⟩ g)
end Go.Proofs.Ytabgphlpdoockaa
namespace Go.Proofs.Ytabgphlpdoockaa
open Go.RowKit
theorem Ri.of_own {w : World} {base : Nat} {v : Value} {L : List Int} (h : w.ownsRow base 3 1 v L.length (L.map (Value.int .i64))) : Ri w v L := by
  obtain ⟨ao, cap, rfl⟩ := owns_slice h
  refine ⟨ao, cap, rfl, ?_⟩
  by_cases z : L.length = 0
  · exact Or.inl z
  · obtain ⟨g, rfl⟩ := owns_addr h z
    refine Or.inr ⟨g, 0, rfl, (h.lt g rfl).2, fun j x hx => ?_⟩
    have hj : j < L.length := (List.getElem?_eq_some_iff.1 hx).1
    rw [Nat.zero_add]
    exact (h.cellAt j (by omega)).trans (by simp [hx])
/-- whether a domain is right and has few indices -/
def smallB (L : List R3) (k s h : Int) : Bool := decide (dchk L k s h = 0) && decide (prodL L ≤ 500)
set_option maxRecDepth 100000 in
theorem small_dom (v : Value) (L : List R3) (k s h : Int) (w : World) (hr : Rd w v L) (hL : Ok3 L) :
    Calls Try.prog 91 #[.agg #[v, .int .i64 k, .int .i64 s, .int .i64 h]] w fun e w' => e = .returned (.bool (smallB L k s h)) ∧ Below w.heap.size w w' := by
  obtain ⟨ao, cap, rfl, hc⟩ := hr
  have HR : Hid (Rd w (.slice ao L.length cap) L) := Lib.hid ⟨ao, cap, rfl, hc⟩
  have HL := Lib.hid hL
  clear hc hL
  go_enter Try.func91, Try.ntmps91
  go_wp2_with fail
  refine (Dcheck_any _ L _ _ _ _ (HR.out.keep (below_new _ _)) HL.out).mono ?_
  rintro e w1 ⟨rfl, hb1⟩
  have R1 := resD hb1
  have D1 : Hid (DSt w (.slice ao L.length cap) k s h w1) := Lib.hid ⟨R1.1, R1.2⟩
  clear hb1 R1
  by_cases c : dchk L k s h = 0
  · have c' : (dchk L k s h == 0) = true := by simp [c]
    have E : Hid (smallB L k s h = decide (prodL L ≤ 500)) := Lib.hid (by unfold smallB; simp [c])
    have ES : Hid (dsiz L k s h = prodL L) := Lib.hid (by unfold dsiz; rw [if_pos c])
    have x0 := D1.out.d.c0
    have x1 := D1.out.d.c1
    have x2 := D1.out.d.c2
    have x3 := D1.out.d.c3
    clear c
    go_wp2_with fail
    refine (Dsize_any _ L _ _ _ _ (HR.out.keep D1.out.below) HL.out).mono ?_
    rintro e w2 ⟨rfl, hb2⟩
    rw [ES.out]
    have D2 := Lib.hid (D1.out.keep hb2)
    clear hb2 D1 x0 x1 x2 x3
    go_wp2
    rw [E.out]
    exact bodyPost_ret (v := .bool (decide (prodL L ≤ 500))) (by simp [results, Try.results91, go_sem, *]) rfl ⟨rfl, D2.out.below⟩
  · have c' : (dchk L k s h == 0) = false := by simp [c]
    have E : Hid (smallB L k s h = false) := Lib.hid (by unfold smallB; simp [c])
    clear c
    go_wp2
    rw [E.out]
    exact bodyPost_ret (v := .bool false) (by simp [results, Try.results91, go_sem, *]) rfl ⟨rfl, D1.out.below⟩
/-- the opposite numbers -/
def negs (ns : List Int) : List Int := ns.map fun n => -n
set_option maxRecDepth 100000 in
set_option maxHeartbeats 3200000 in
theorem minus_any (iv : Value) (ns : List Int) (w : World) (hi : Ri w iv ns) (hb : ∀ n ∈ ns, -20 ≤ n ∧ n ≤ 20) (hl : ns.length ≤ 2) :
    Calls Try.prog 99 #[iv] w fun e w' => ∃ v, e = .returned v ∧ Below w.heap.size w w' ∧ Ri w' v (negs ns) := by
  obtain ⟨ai, ci, rfl, hci⟩ := hi
  have HC := Lib.hid hci
  have HB := Lib.hid hb
  clear hci hb
  obtain ⟨i0, hi, hz0, hz1, hz2⟩ := info_parts Try.infoInt
  go_enter Try.func99, Try.ntmps99
  go_wp2_with fail
  go_loopg [3, 5, 8] (ns.length + 1) (fun gh v3 _ v8 wr => ∃ j : Nat, v8 = .int .i64 j ∧ (j ≤ ns.length ∧ ns.length - j < gh) ∧ Hid (Below w.heap.size w wr) ∧ Hid (wr.ownsRow w.heap.size 3 1 v3 (negs (ns.take j)).length ((negs (ns.take j)).map (Value.int .i64))))
  case atStart => exact ⟨0, rfl, ⟨by omega, by omega⟩, Lib.hid (Below.refl _ _), Lib.hid (World.ownsRow_nil _ _ _ _)⟩
  case round =>
    obtain ⟨j, rfl, ⟨j0, jg⟩, B1, O1⟩ := hrel
    have KG := Lib.hid jg
    clear jg
    by_cases hj : j < ns.length
    · obtain ⟨n, hn⟩ : ∃ n, ns[j]? = some n := ⟨ns[j], List.getElem?_eq_getElem hj⟩
      obtain ⟨b, o, rfl, zb, at1⟩ := HC.out.resolve_left (by omega)
      have p0 := (B1.out.cell (p := ⟨b, o + j, none⟩) zb).trans (at1 j n hn)
      have bn := HB.out n (List.mem_of_getElem? hn)
      have FN := Lib.hid hn
      have jn : IntKind.i64.wrap (-n) = -n := IntWalk.i64_in _ (by omega)
      have jw : IntKind.i64.wrap ((j : Int) + 1) = (j : Int) + 1 := IntWalk.i64_in _ (by omega)
      have ln : Hid ((negs (ns.take j)).length = j) := Lib.hid (by unfold negs; simp; omega)
      have O2 := O1.out
      rw [ln.out] at O2
      obtain ⟨sa, sc, rfl⟩ := owns_slice O2
      have O2 := Lib.hid O2
      have sz := B1.out.size
      clear hn at1 O1
      go_wp2_with (first | (at_builtin; refine wpList_append_own _ rfl (.tmp 12) (.tmp 15) 48 rfl w.heap.size 3 i0 (.int .i64 0) 1 8 Try.underlying48 hi hz0 hz1 hz2 rfl (by decide) _ j ((negs (ns.take j)).map (Value.int .i64)) rfl (O2.out.alloc _) ⟨wr.heap.size, 0, none⟩ 1 1 [.int .i64 (-n)] rfl rfl ?c1 ?c2 ?c3 ?c4 ?c5 ?_))
      case c1 => exact cell_one_new _ _ _
      case c2 => intro u hu; simp at hu; subst hu; rfl
      case c3 => unfold maxLen; omega
      case c4 => omega
      case c5 => simp; omega
      intro v2 w2 own2 grow2 _
      have B2 : Hid (Below w.heap.size w w2) := Lib.hid ((B1.out.trans ((Below.refl _ _).alloc sz _)).trans ((Below.refl _ _).grown grow2 (by simp; omega) (fun g hg => (O2.out.lt g hg).1)))
      have O3 : Hid (w2.ownsRow w.heap.size 3 1 v2 (negs (ns.take (j + 1))).length ((negs (ns.take (j + 1))).map (Value.int .i64))) := Lib.hid (by
        have e : negs (ns.take (j + 1)) = negs (ns.take j) ++ [-n] := by
          unfold negs; rw [List.take_add_one, FN.out, List.map_append]; rfl
        rw [e, List.length_append, ln.out, List.map_append]
        exact own2)
      clear own2 grow2 B1 O2
      go_wp2_with fail
      go_roundg (ns.length - j)
      case measure => exact KG.out
      case rel => exact ⟨j + 1, by go_num, ⟨by omega, by omega⟩, B2, O3⟩
    · have e : j = ns.length := by omega
      have R : Hid (Ri wr u3 (negs ns)) := Lib.hid (by
        have h := O1.out
        rw [e, List.take_length] at h
        exact Ri.of_own h)
      clear e
      go_wp2
      exact bodyPost_ret (v := u3) (by simp [results, Try.results99, go_sem, *]) rfl ⟨_, rfl, B1.out, R.out⟩
set_option maxRecDepth 100000 in
set_option maxHeartbeats 3200000 in
theorem minInt_any (iv : Value) (ns : List Int) (w : World) (hi : Ri w iv ns) (h1 : 1 ≤ ns.length) (hl : ns.length ≤ 2) :
    Calls Try.prog 100 #[iv] w fun e w' => ∃ m : Int, e = .returned (.int .i64 m) ∧ w = w' ∧ Hid (0 ≤ m ↔ ∀ n ∈ ns, 0 ≤ n) := by
  obtain ⟨ai, ci, rfl, hci⟩ := hi
  obtain ⟨b, o, rfl, zb, at1⟩ := hci.resolve_left (by omega)
  obtain ⟨n0, hn0⟩ : ∃ n, ns[0]? = some n := ⟨ns[0], List.getElem?_eq_getElem (by omega)⟩
  have p0 := at1 0 n0 hn0
  simp only [Nat.add_zero] at p0
  have AT := Lib.hid at1
  have F0 := Lib.hid hn0
  have q1' : decide ((ns.length : Int) < 1) = false := by simp; omega
  have q1'' : ¬ (ns.length : Int) < 1 := by omega
  have h0 : 0 < ns.length := by omega
  clear hci at1 hn0
  go_enter Try.func100, Try.ntmps100
  go_wp2_with fail
  go_loopg [3, 4] (ns.length + 1) (fun gh v3 v4 wr => ∃ (j : Nat) (m : Int), v4 = .int .i64 j ∧ v3 = .int .i64 m ∧ (1 ≤ j ∧ j ≤ ns.length ∧ ns.length - j < gh) ∧ Hid (0 ≤ m ↔ ∀ i n, i < j → ns[i]? = some n → 0 ≤ n) ∧ wr = w)
  case atStart =>
    refine ⟨1, n0, rfl, rfl, ⟨by omega, by omega, by omega⟩, Lib.hid ⟨fun h i n hi hn => ?_, fun h => h 0 n0 (by omega) F0.out⟩, rfl⟩
    obtain rfl : i = 0 := by omega
    rw [F0.out] at hn; cases hn; exact h
  case round =>
    obtain ⟨j, m, rfl, rfl, ⟨j1, j0, jg⟩, HM, rfl⟩ := hrel
    have KG := Lib.hid jg
    clear jg
    by_cases hj : j < ns.length
    · obtain ⟨n, hn⟩ : ∃ n, ns[j]? = some n := ⟨ns[j], List.getElem?_eq_getElem hj⟩
      have pj := AT.out j n hn
      have FN := Lib.hid hn
      have jw : IntKind.i64.wrap ((j : Int) + 1) = (j : Int) + 1 := IntWalk.i64_in _ (by omega)
      clear hn
      have key : Hid (∀ m2 : Int, m2 = (if n < m then n else m) → (0 ≤ m2 ↔ ∀ i n, i < j + 1 → ns[i]? = some n → 0 ≤ n)) := Lib.hid (fun m2 e => by
        have hm := HM.out
        constructor
        · intro h i n' hi hn'
          by_cases c : i < j
          · exact hm.1 (by split at e <;> omega) i n' c hn'
          · obtain rfl : i = j := by omega
            rw [FN.out] at hn'; cases hn'
            split at e <;> omega
        · intro h
          have a := h j n (by omega) FN.out
          have b := hm.2 (fun i n hi hn => h i n (by omega) hn)
          split at e <;> omega)
      by_cases c : n < m
      · have K := Lib.hid (key.out n (by rw [if_pos c]))
        clear key
        go_wp2_with fail
        go_roundg (ns.length - j)
        case measure => exact KG.out
        case rel => exact ⟨j + 1, n, by go_num, rfl, ⟨by omega, by omega, by omega⟩, K, rfl⟩
      · have K := Lib.hid (key.out m (by rw [if_neg c]))
        clear key
        go_wp2_with fail
        go_roundg (ns.length - j)
        case measure => exact KG.out
        case rel => exact ⟨j + 1, m, by go_num, rfl, ⟨by omega, by omega, by omega⟩, K, rfl⟩
    · have H : Hid (0 ≤ m ↔ ∀ n ∈ ns, 0 ≤ n) := Lib.hid (by
        rw [HM.out]
        constructor
        · intro h n hn
          obtain ⟨i, hi, e⟩ := List.getElem_of_mem hn
          exact h i n (by omega) (by rw [← e]; exact List.getElem?_eq_getElem hi)
        · intro h i n _ hn
          exact h n (List.mem_of_getElem? hn))
      go_wp2
      exact bodyPost_ret (v := .int .i64 m) (by simp [results, Try.results100, go_sem, *]) rfl ⟨m, rfl, rfl, H⟩
theorem nonzeroClo (n : Int) (w : World) : Calls Try.prog 102 #[.int .i64 n] w fun e w' => e = .returned (.bool (n != 0)) ∧ w = w' := by
  go_enter Try.func102, Try.ntmps102
  go_wp2
  go_ret
  exact ⟨rfl, rfl⟩
set_option maxRecDepth 100000 in
set_option maxHeartbeats 3200000 in
theorem indexF_any (iv : Value) (ns : List Int) (w : World) (hi : Ri w iv ns) (hl : ns.length ≤ 2) :
    Calls Try.prog 159 #[iv, .func (.func 102) #[] #[]] w fun e w' => ∃ m : Int, e = .returned (.int .i64 m) ∧ w = w' ∧ Hid (0 ≤ m ↔ ∃ n ∈ ns, ¬ n = 0) := by
  obtain ⟨ai, ci, rfl, hci⟩ := hi
  have HC := Lib.hid hci
  clear hci
  go_enter Try.func159, Try.ntmps159
  go_wp2_with fail
  go_loopg [5, 8] (ns.length + 1) (fun gh _ v8 wr => ∃ j : Nat, v8 = .int .i64 j ∧ (j ≤ ns.length ∧ ns.length - j < gh) ∧ Hid (∀ i n, i < j → ns[i]? = some n → n = 0) ∧ wr = w)
  case atStart => exact ⟨0, rfl, ⟨by omega, by omega⟩, Lib.hid (fun i n hi => by omega), rfl⟩
  case round =>
    obtain ⟨j, rfl, ⟨j0, jg⟩, HZ, rfl⟩ := hrel
    have KG := Lib.hid jg
    clear jg
    by_cases hj : j < ns.length
    · obtain ⟨n, hn⟩ : ∃ n, ns[j]? = some n := ⟨ns[j], List.getElem?_eq_getElem hj⟩
      obtain ⟨b, o, rfl, zb, at1⟩ := HC.out.resolve_left (by omega)
      have pj := at1 j n hn
      have FN := Lib.hid hn
      have jw : IntKind.i64.wrap ((j : Int) + 1) = (j : Int) + 1 := IntWalk.i64_in _ (by omega)
      clear hn at1
      go_wp2_with fail
      refine (nonzeroClo n _).mono ?_
      rintro e w1 ⟨rfl, rfl⟩
      by_cases c : n = 0
      · have c' : (n != 0) = false := by simp [c]
        have Z2 : Hid (∀ i n, i < j + 1 → ns[i]? = some n → n = 0) := Lib.hid (fun i n' hi hn' => by
          by_cases q : i < j
          · exact HZ.out i n' q hn'
          · obtain rfl : i = j := by omega
            rw [FN.out] at hn'; cases hn'; exact c)
        clear c
        go_wp2_with fail
        go_roundg (ns.length - j)
        case measure => exact KG.out
        case rel => exact ⟨j + 1, by go_num, ⟨by omega, by omega⟩, Z2, rfl⟩
      · have c' : (n != 0) = true := by simp [c]
        have E : Hid (∃ n ∈ ns, ¬ n = 0) := Lib.hid ⟨n, List.mem_of_getElem? FN.out, c⟩
        clear c
        go_wp2
        exact bodyPost_ret (v := .int .i64 j) (by simp [results, Try.results159, go_sem, *]) rfl ⟨j, rfl, rfl, Lib.hid ⟨fun _ => E.out, fun _ => by omega⟩⟩
    · have E : Hid (¬ ∃ n ∈ ns, ¬ n = 0) := Lib.hid (fun ⟨n, hn, c⟩ => by
        obtain ⟨i, hi, e⟩ := List.getElem_of_mem hn
        exact c (HZ.out i n (by omega) (by rw [← e]; exact List.getElem?_eq_getElem hi)))
      go_wp2
      exact bodyPost_ret (v := .int .i64 (-1)) (by simp [results, Try.results159, go_sem, *]) rfl ⟨-1, rfl, rfl, Lib.hid ⟨fun h => by omega, fun h => absurd h E.out⟩⟩
set_option maxRecDepth 100000 in
theorem containsF_any (iv : Value) (ns : List Int) (w : World) (hi : Ri w iv ns) (hl : ns.length ≤ 2) :
    Calls Try.prog 101 #[iv, .func (.func 102) #[] #[]] w fun e w' => e = .returned (.bool (decide (∃ n ∈ ns, ¬ n = 0))) ∧ w = w' := by
  obtain ⟨ai, ci, rfl, hci⟩ := hi
  have HI : Hid (Ri w (.slice ai ns.length ci) ns) := Lib.hid ⟨ai, ci, rfl, hci⟩
  clear hci
  go_enter Try.func101, Try.ntmps101
  go_wp2_with fail
  refine (indexF_any _ ns _ HI.out hl).mono ?_
  rintro e w1 ⟨m, rfl, rfl, H⟩
  have E : Hid (decide (∃ n ∈ ns, ¬ n = 0) = decide (0 ≤ m)) := Lib.hid (by
    by_cases c : 0 ≤ m
    · rw [decide_eq_true c]; exact decide_eq_true (H.out.1 c)
    · rw [decide_eq_false c]; exact decide_eq_false (fun h => c (H.out.2 h)))
  clear H
  go_wp2
  rw [E.out]
  exact bodyPost_ret (v := .bool (decide (0 ≤ m))) (by simp [results, Try.results101, go_sem, *]) rfl ⟨rfl, rfl⟩
end Go.Proofs.Ytabgphlpdoockaa
