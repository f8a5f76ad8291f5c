/-
  Part 12: DomP, LawWi.
-/
import Derived.Test.YtabgphlpdoockaaWi11
import Derived.BigQuiet
import Derived.Deep.CutBlock
import Derived.Deep.DeepCutAuto
import Derived.Deep.DrawnRows
import Derived.Deep.LoopGhost
import Derived.Deep.QuietTactic
import Derived.Deep.RegionHeld3
import Derived.Deep.RegionWith
import Derived.Lib.Hide
import Derived.WalkKit
import Derived.WalkLawsBesides
import Derived.WalkSpells
namespace Go.Proofs.Ytabgphlpdoockaa
/-- right ascending ranges -/
def Up (L : List R3) : Prop := ∀ x ∈ L, chk x.1 x.2.1 x.2.2 = 0 ∧ ¬ x.2.2 < 0
theorem siz_mem {l h s : Int} (hk : chk l h s = 0) : siz l h s = 0 ↔ ∀ n, ¬ RMem l h s n := by
  constructor
  · intro e n hn
    have h1 := (nums_mem hk n).2 hn
    have h2 := nums_len l h s
    rw [e] at h2
    rw [List.eq_nil_of_length_eq_zero h2] at h1
    cases h1
  · intro h1
    by_cases le : l ≤ h
    · exact absurd (rmem_lo le) (h1 l)
    · unfold siz; rw [if_neg (fun c => le c.2)]
theorem siz_nn {l h s : Int} (hk : chk l h s = 0) : 0 ≤ siz l h s := (siz_bdn hk).1
/-- what two ranges have in common is no more than the first one, and as much only if all of it -/
theorem siz_meet {a b c : R3} (hA : chk a.1 a.2.1 a.2.2 = 0) (hB : chk b.1 b.2.1 b.2.2 = 0) (f : InterF a.1 a.2.1 a.2.2 b.1 b.2.1 b.2.2 c.1 c.2.1 c.2.2) :
    siz c.1 c.2.1 c.2.2 ≤ siz a.1 a.2.1 a.2.2 ∧ (siz c.1 c.2.1 c.2.2 = siz a.1 a.2.1 a.2.2 → ∀ n, RMem a.1 a.2.1 a.2.2 n → RMem b.1 b.2.1 b.2.2 n) := by
  have e := nums_inter hA hB f.1 f.2.1 f.2.2
  have la := nums_len a.1 a.2.1 a.2.2
  have lc := nums_len c.1 c.2.1 c.2.2
  have na := siz_nn hA
  have nc := siz_nn f.1
  have le := List.length_filter_le (fun n => posB b.1 b.2.1 b.2.2 n) (numsL a.1 a.2.1 a.2.2)
  rw [← e] at le
  refine ⟨by omega, fun es n hn => ?_⟩
  have h1 : ((numsL a.1 a.2.1 a.2.2).filter (fun n => posB b.1 b.2.1 b.2.2 n)).length = (numsL a.1 a.2.1 a.2.2).length := by rw [← e]; omega
  have h2 := List.length_filter_eq_length_iff.1 h1 n ((nums_mem hA n).2 hn)
  exact (posB_iff hB).1 h2
/-- each range of the one has all numbers of the other one's -/
def Subs (A B : List R3) : Prop := ∀ (i : Nat) (x y : R3), A[i]? = some x → B[i]? = some y → ∀ n, RMem x.1 x.2.1 x.2.2 n → RMem y.1 y.2.1 y.2.2 n
theorem prod_le {A C : List R3} (hl : A.length = 1 ∨ A.length = 2) (hC : C.length = A.length) (h : ∀ (i : Nat) (x z : R3), A[i]? = some x → C[i]? = some z → 0 ≤ siz z.1 z.2.1 z.2.2 ∧ siz z.1 z.2.1 z.2.2 ≤ siz x.1 x.2.1 x.2.2) :
    prodL C ≤ prodL A ∧ (prodL C = prodL A → ¬ prodL A = 0 → ∀ (i : Nat) (x z : R3), A[i]? = some x → C[i]? = some z → siz z.1 z.2.1 z.2.2 = siz x.1 x.2.1 x.2.2) := by
  rcases hl with hl | hl
  · match A, C, hl, hC with
    | [x], [z], _, _ =>
      have h0 := h 0 x z rfl rfl
      refine ⟨by simpa [prodL] using h0.2, fun e _ i x' z' hx hz => ?_⟩
      match i, hx, hz with
      | 0, hx, hz =>
        simp at hx hz
        subst hx; subst hz
        simpa [prodL] using e
  · match A, C, hl, hC with
    | [x, y], [z, t], _, _ =>
      have h0 := h 0 x z rfl rfl
      have h1 := h 1 y t rfl rfl
      simp only [prodL]
      generalize ha : siz x.1 x.2.1 x.2.2 = a at *
      generalize hb : siz y.1 y.2.1 y.2.2 = b at *
      generalize hc : siz z.1 z.2.1 z.2.2 = c at *
      generalize hd : siz t.1 t.2.1 t.2.2 = d at *
      have m1 : c * d ≤ a * d := Int.mul_le_mul_of_nonneg_right h0.2 h1.1
      have m2 : a * d ≤ a * b := Int.mul_le_mul_of_nonneg_left h1.2 (by omega)
      refine ⟨by omega, fun e ne => ?_⟩
      have a0 : ¬ a = 0 := fun e => ne (by rw [e]; simp)
      have b0 : ¬ b = 0 := fun e => ne (by rw [e]; simp)
      have e1 : a * d = a * b := by omega
      have ed : d = b := Int.eq_of_mul_eq_mul_left a0 e1
      have e2 : c * d = a * d := by omega
      have ec : c = a := Int.eq_of_mul_eq_mul_right (by rw [ed]; exact b0) e2
      intro i x' z' hx hz
      match i, hx, hz with
      | 0, hx, hz =>
        simp at hx hz
        subst hx; subst hz
        rw [ha, hc, ec]
      | 1, hx, hz =>
        simp at hx hz
        subst hx; subst hz
        rw [hb, hd, ed]
theorem prod_zero {A : List R3} (hl : A.length = 1 ∨ A.length = 2) : prodL A = 0 ↔ ∃ (i : Nat) (x : R3), A[i]? = some x ∧ siz x.1 x.2.1 x.2.2 = 0 := by
  rcases hl with hl | hl
  · match A, hl with
    | [x], _ =>
      simp only [prodL]
      refine ⟨fun h => ⟨0, x, rfl, h⟩, ?_⟩
      rintro ⟨i, y, hy, h⟩
      match i, hy with
      | 0, hy => simp at hy; subst hy; exact h
  · match A, hl with
    | [x, y], _ =>
      simp only [prodL]
      refine ⟨fun h => ?_, ?_⟩
      · rcases Int.mul_eq_zero.1 h with h | h
        · exact ⟨0, x, rfl, h⟩
        · exact ⟨1, y, rfl, h⟩
      · rintro ⟨i, z, hz, h⟩
        match i, hz with
        | 0, hz => simp at hz; subst hz; rw [h]; simp
        | 1, hz => simp at hz; subst hz; rw [h]; simp
/-- the common part has as many indices as the first domain just if it is that domain, or that domain has none -/
theorem win_iff {A B C : List R3} (hA : Up A) (hB : Up B) (hl : A.length = 1 ∨ A.length = 2) (hab : A.length = B.length) (hm : Meets A B C) : prodL C = prodL A ↔ (prodL A = 0 ∨ Subs A B) := by
  have get : ∀ (i : Nat) (x z : R3), A[i]? = some x → C[i]? = some z → ∃ y, B[i]? = some y ∧ InterF x.1 x.2.1 x.2.2 y.1 y.2.1 y.2.2 z.1 z.2.1 z.2.2 := fun i x z hx hz => by
    obtain ⟨x', y, hx', hy, f⟩ := hm.2 i z hz
    rw [hx] at hx'; cases hx'
    exact ⟨y, hy, f⟩
  have hP := prod_le hl hm.1 (fun i x z hx hz => by
    obtain ⟨y, hy, f⟩ := get i x z hx hz
    exact ⟨siz_nn f.1, (siz_meet (hA x (List.mem_of_getElem? hx)).1 (hB y (List.mem_of_getElem? hy)).1 f).1⟩)
  constructor
  · intro e
    by_cases z : prodL A = 0
    · exact Or.inl z
    · right
      intro i x y hx hy n hn
      have hi : i < C.length := by rw [hm.1]; exact (List.getElem?_eq_some_iff.1 hx).1
      have hz : C[i]? = some C[i] := List.getElem?_eq_getElem hi
      obtain ⟨y', hy', f⟩ := get i x _ hx hz
      rw [hy] at hy'; cases hy'
      exact (siz_meet (hA x (List.mem_of_getElem? hx)).1 (hB y (List.mem_of_getElem? hy)).1 f).2 (hP.2 e z i x _ hx hz) n hn
  · rintro (z | hs)
    · have hC := prodL_bd C
      omega
    · have e : C = A := by
        apply List.ext_getElem?
        intro i
        by_cases hi : i < A.length
        · have hx : A[i]? = some A[i] := List.getElem?_eq_getElem hi
          have hz : C[i]? = some (C[i]'(by rw [hm.1]; exact hi)) := List.getElem?_eq_getElem _
          obtain ⟨y, hy, f⟩ := get i _ _ hx hz
          have f' : InterF A[i].1 A[i].2.1 A[i].2.2 y.1 y.2.1 y.2.2 A[i].1 A[i].2.1 A[i].2.2 :=
            ⟨(hA _ (List.mem_of_getElem? hx)).1, fun n => ⟨fun h => ⟨h, hs i _ y hx hy n h⟩, fun h => h.1⟩, fun _ => Iff.rfl⟩
          obtain ⟨e1, e2, e3⟩ := interF_uniq f f'
          rw [hx, hz]
          exact congrArg some (Prod.ext e1 (Prod.ext e2 e3))
        · rw [List.getElem?_eq_none (by rw [hm.1]; omega), List.getElem?_eq_none (by omega)]
      rw [e]
theorem subs_refl (A : List R3) : Subs A A := fun i x y hx hy n hn => by rw [hx] at hy; cases hy; exact hn
theorem subs_trans {A B C : List R3} (hab : A.length = B.length) (h1 : Subs A B) (h2 : Subs B C) : Subs A C := fun i x z hx hz n hn => by
  have hi : i < B.length := by rw [← hab]; exact (List.getElem?_eq_some_iff.1 hx).1
  exact h2 i _ z (List.getElem?_eq_getElem hi) hz n (h1 i x _ hx (List.getElem?_eq_getElem hi) n hn)
/-- a domain with all indices of one that has some has some -/
theorem subs_nonzero {A B : List R3} (hA : Up A) (hB : Up B) (hl : A.length = 1 ∨ A.length = 2) (hab : A.length = B.length) (hs : Subs A B) (hn : ¬ prodL A = 0) : ¬ prodL B = 0 := by
  intro hb
  obtain ⟨i, y, hy, h0⟩ := (prod_zero (by omega)).1 hb
  have hi : i < A.length := by rw [hab]; exact (List.getElem?_eq_some_iff.1 hy).1
  have hx : A[i]? = some A[i] := List.getElem?_eq_getElem hi
  refine hn ((prod_zero hl).2 ⟨i, _, hx, (siz_mem (hA _ (List.mem_of_getElem? hx)).1).2 fun n h => ?_⟩)
  exact (siz_mem (hB y (List.mem_of_getElem? hy)).1).1 h0 n (hs i _ y hx hy n h)
/-- two domains each of which has all indices of the other one -/
theorem subs_eq {A B : List R3} (hA : Up A) (hB : Up B) (hab : A.length = B.length) (h1 : Subs A B) (h2 : Subs B A) : A = B := by
  apply List.ext_getElem?
  intro i
  by_cases hi : i < A.length
  · have hx : A[i]? = some A[i] := List.getElem?_eq_getElem hi
    have hy : B[i]? = some (B[i]'(by omega)) := List.getElem?_eq_getElem _
    have uA := hA _ (List.mem_of_getElem? hx)
    have uB := hB _ (List.mem_of_getElem? hy)
    obtain ⟨e1, e2, e3⟩ := canonS uA.1 uB.1 (fun n => ⟨h1 i _ _ hx hy n, h2 i _ _ hy hx n⟩) (fun _ => ⟨fun h => absurd h uA.2, fun h => absurd h uB.2⟩)
    rw [hx, hy]
    exact congrArg some (Prod.ext e1 (Prod.ext e2 e3))
  · rw [List.getElem?_eq_none (by omega), List.getElem?_eq_none (by omega)]
/-- what Within tells -/
def Win (A B : List R3) : Prop := prodL A = 0 ∨ Subs A B
theorem win_trans {A B C : List R3} (hA : Up A) (hB : Up B) (hl : A.length = 1 ∨ A.length = 2) (hab : A.length = B.length) (h1 : Win A B) (h2 : Win B C) : Win A C := by
  rcases h1 with z | h1
  · exact Or.inl z
  · by_cases z : prodL A = 0
    · exact Or.inl z
    · rcases h2 with zb | h2
      · exact absurd zb (subs_nonzero hA hB hl hab h1 z)
      · exact Or.inr (subs_trans hab h1 h2)
theorem win_same {A B : List R3} (hA : Up A) (hB : Up B) (hl : A.length = 1 ∨ A.length = 2) (hab : A.length = B.length) : (Win A B ∧ Win B A) ↔ ((prodL A = 0 ∧ prodL B = 0) ∨ A = B) := by
  constructor
  · rintro ⟨h1, h2⟩
    by_cases za : prodL A = 0
    · by_cases zb : prodL B = 0
      · exact Or.inl ⟨za, zb⟩
      · rcases h2 with z | h2
        · exact absurd z zb
        · exact absurd za (subs_nonzero hB hA (by omega) hab.symm h2 zb)
    · rcases h1 with z | h1
      · exact absurd z za
      · rcases h2 with z | h2
        · exact absurd z (subs_nonzero hA hB hl hab h1 za)
        · exact Or.inr (subs_eq hA hB hab h1 h2)
  · rintro (⟨z1, z2⟩ | rfl)
    · exact ⟨Or.inl z1, Or.inl z2⟩
    · exact ⟨Or.inr (subs_refl _), Or.inr (subs_refl _)⟩
end Go.Proofs.Ytabgphlpdoockaa
namespace Go.Proofs.Ytabgphlpdoockaa
open Go.RowKit
/-- the boxes of three domains that the call itself made -/
structure D3 (w : World) (v1 : Value) (k1 s1 h1 : Int) (v2 : Value) (k2 s2 h2 : Int) (v3 : Value) (k3 s3 h3 : Int) (wx : World) : Prop where
  below : Below w.heap.size w wx
  a : Blk w.heap.size v1 (.int .i64 k1) (.int .i64 s1) (.int .i64 h1) wx
  b : Blk (w.heap.size + 1) v2 (.int .i64 k2) (.int .i64 s2) (.int .i64 h2) wx
  c : Blk (w.heap.size + 1 + 1) v3 (.int .i64 k3) (.int .i64 s3) (.int .i64 h3) wx
theorem D3.keep {w : World} {v1 : Value} {k1 s1 h1 : Int} {v2 : Value} {k2 s2 h2 : Int} {v3 : Value} {k3 s3 h3 : Int} {wx wy : World} (t : D3 w v1 k1 s1 h1 v2 k2 s2 h2 v3 k3 s3 h3 wx) (hb : Below wx.heap.size wx wy) : D3 w v1 k1 s1 h1 v2 k2 s2 h2 v3 k3 s3 h3 wy :=
  ⟨t.below.trans (hb.mono t.below.size), t.a.keep hb, t.b.keep hb, t.c.keep hb⟩
theorem D3.new (w : World) (v1 : Value) (k1 s1 h1 : Int) (v2 : Value) (k2 s2 h2 : Int) (v3 : Value) (k3 s3 h3 : Int) :
    D3 w v1 k1 s1 h1 v2 k2 s2 h2 v3 k3 s3 h3 (((w.alloc (.cells #[v1, .int .i64 k1, .int .i64 s1, .int .i64 h1] 62)).alloc (.cells #[v2, .int .i64 k2, .int .i64 s2, .int .i64 h2] 62)).alloc (.cells #[v3, .int .i64 k3, .int .i64 s3, .int .i64 h3] 62)) := by
  have n1 := below_new w (.cells #[v1, .int .i64 k1, .int .i64 s1, .int .i64 h1] 62)
  have n2 := below_new (w.alloc (.cells #[v1, .int .i64 k1, .int .i64 s1, .int .i64 h1] 62)) (.cells #[v2, .int .i64 k2, .int .i64 s2, .int .i64 h2] 62)
  have n3 := below_new ((w.alloc (.cells #[v1, .int .i64 k1, .int .i64 s1, .int .i64 h1] 62)).alloc (.cells #[v2, .int .i64 k2, .int .i64 s2, .int .i64 h2] 62)) (.cells #[v3, .int .i64 k3, .int .i64 s3, .int .i64 h3] 62)
  have z1 : (w.alloc (.cells #[v1, .int .i64 k1, .int .i64 s1, .int .i64 h1] 62)).heap.size = w.heap.size + 1 := by simp
  have z2 : ((w.alloc (.cells #[v1, .int .i64 k1, .int .i64 s1, .int .i64 h1] 62)).alloc (.cells #[v2, .int .i64 k2, .int .i64 s2, .int .i64 h2] 62)).heap.size = w.heap.size + 1 + 1 := by simp
  refine ⟨(n1.trans (n2.mono (by omega))).trans (n3.mono (by omega)), ((Blk.new _ _ _ _ _ w).keep n2).keep n3, ?_, ?_⟩
  · have := (Blk.new v2 (.int .i64 k2) (.int .i64 s2) (.int .i64 h2) 62 (w.alloc (.cells #[v1, .int .i64 k1, .int .i64 s1, .int .i64 h1] 62))).keep n3
    rw [z1] at this
    exact this
  · have := Blk.new v3 (.int .i64 k3) (.int .i64 s3) (.int .i64 h3) 62 ((w.alloc (.cells #[v1, .int .i64 k1, .int .i64 s1, .int .i64 h1] 62)).alloc (.cells #[v2, .int .i64 k2, .int .i64 s2, .int .i64 h2] 62))
    rw [z2] at this
    exact this
theorem run_max_five (P : Program) (w : World) (ts : Array TypeId) (t : TypeId) : (Builtin.max_ ts t #[.int .i64 0, .int .i64 0, .int .i64 0, .int .i64 0, .int .i64 0]).run P w = .ok (.int .i64 0) w := by
  simp [Builtin.max_, Builtin.max2]
theorem up_of {L : List R3} {k s h : Int} (hd : dchk L k s h = 0) : Up L := by
  unfold dchk at hd
  by_cases r : rankB L.length = true
  · rw [if_pos r] at hd
    by_cases e : dimsE L = 0
    · exact dimsE_zero e
    · rw [if_neg e] at hd; exact absurd hd e
  · rw [if_neg r] at hd; omega
theorem both_of {L M : List R3} {k s h k' s' h' : Int} (h1 : dchk L k s h = 0) (h2 : dchk M k' s' h' = 0) (hl : L.length = M.length) : dboth L k s h M k' s' h' = 0 := by
  unfold dboth
  rw [if_pos h1, if_pos h2, if_pos hl]
theorem win_ret {L M : List R3} {k s h k' s' h' er : Int} {b : Bool} (h1 : dchk L k s h = 0) (h2 : dchk M k' s' h' = 0) (hl : L.length = M.length)
    (q : Hid ((¬ dboth L k s h M k' s' h' = 0 ∧ er = dboth L k s h M k' s' h' ∧ b = false) ∨ (dboth L k s h M k' s' h' = 0 ∧ er = 0 ∧ ∃ C, Meets L M C ∧ b = (prodL C == prodL L)))) : er = 0 ∧ Hid (b = true ↔ Win L M) := by
  rcases q.out with ⟨n, _⟩ | ⟨_, e, C, hm, rfl⟩
  · exact absurd (both_of h1 h2 hl) n
  · refine ⟨e, Lib.hid ?_⟩
    have := win_iff (up_of h1) (up_of h2) (dchk_rank h1) hl hm
    unfold Win
    rw [← this]
    simp
theorem wi_true {A B C : List R3} {ka sa ha kb sb hb kc sc hc : Int} {aa ab bc ac ba : Bool} (h1 : dchk A ka sa ha = 0) (h2 : dchk B kb sb hb = 0) (h3 : dchk C kc sc hc = 0) (l2 : A.length = B.length) (l3 : A.length = C.length)
    (qaa : aa = true ↔ Win A A) (qab : ab = true ↔ Win A B) (qbc : bc = true ↔ Win B C) (qac : ac = true ↔ Win A C) (qba : ba = true ↔ Win B A) :
    aa = true ∧ (ab = true → bc = true → ac = true) ∧ dsame A ka sa ha B kb sb hb = (ab && ba) := by
  refine ⟨qaa.2 (Or.inr (subs_refl A)), fun x y => qac.2 (win_trans (up_of h1) (up_of h2) (dchk_rank h1) l2 (qab.1 x) (qbc.1 y)), ?_⟩
  have q : (ab && ba) = true ↔ (Win A B ∧ Win B A) := by rw [Bool.and_eq_true, qab, qba]
  rw [win_same (up_of h1) (up_of h2) (dchk_rank h1) l2] at q
  apply Bool.eq_iff_iff.2
  rw [q]
  unfold dsame
  rw [both_of h1 h2 l2]
  simp
set_option maxRecDepth 100000 in
set_option maxHeartbeats 6400000 in
theorem wi_a (v1 : Value) (L1 : List R3) (k1 s1 h1 : Int) (v2 : Value) (L2 : List R3) (k2 s2 h2 : Int) (v3 : Value) (L3 : List R3) (k3 s3 h3 : Int) (w : World) (hr1 : Rd w v1 L1) (hL1 : Ok3 L1) (hr2 : Rd w v2 L2) (hL2 : Ok3 L2) (hr3 : Rd w v3 L3) (hL3 : Ok3 L3) (c1n : ¬ dchk L1 k1 s1 h1 = 0) :
    Calls Try.prog 17 #[.agg #[v1, .int .i64 k1, .int .i64 s1, .int .i64 h1], .agg #[v2, .int .i64 k2, .int .i64 s2, .int .i64 h2], .agg #[v3, .int .i64 k3, .int .i64 s3, .int .i64 h3]] w fun e w' => e = .returned (.bool true) ∧ Below w.heap.size w w' := by
  have cb1 : (dchk L1 k1 s1 h1 != 0) = true := by simp [c1n]
  clear c1n
  have HL1 := Lib.hid hL1
  have HR1 : Hid (Rd w v1 L1) := Lib.hid hr1
  have HL2 := Lib.hid hL2
  have HR2 : Hid (Rd w v2 L2) := Lib.hid hr2
  have HL3 := Lib.hid hL3
  have HR3 : Hid (Rd w v3 L3) := Lib.hid hr3
  obtain ⟨o1, c1, rfl, _⟩ := hr1
  obtain ⟨o2, c2, rfl, _⟩ := hr2
  obtain ⟨o3, c3, rfl, _⟩ := hr3
  clear hL1 hL2 hL3
  go_enter Try.func17, Try.ntmps17
  go_upto_region 1 with fail
  have T0 := D3.new w (.slice o1 L1.length c1) k1 s1 h1 (.slice o2 L2.length c2) k2 s2 h2 (.slice o3 L3.length c3) k3 s3 h3
  generalize ((w.alloc (.cells #[.slice o1 L1.length c1, .int .i64 k1, .int .i64 s1, .int .i64 h1] 62)).alloc (.cells #[.slice o2 L2.length c2, .int .i64 k2, .int .i64 s2, .int .i64 h2] 62)).alloc (.cells #[.slice o3 L3.length c3, .int .i64 k3, .int .i64 s3, .int .i64 h3] 62) = u0 at *
  replace T0 := Lib.hid T0
  have xa0 := T0.out.a.c0
  have xa1 := T0.out.a.c1
  have xa2 := T0.out.a.c2
  have xa3 := T0.out.a.c3
  go_wp2_with fail
  refine (Dcheck_any _ L1 k1 s1 h1 _ (HR1.out.keep T0.out.below) HL1.out).mono ?_
  rintro e u1 ⟨rfl, hb⟩
  have T1 := Lib.hid (T0.out.keep hb)
  clear hb T0
  clear xa0 xa1 xa2 xa3
  have xa0 := T1.out.a.c0
  have xa1 := T1.out.a.c1
  have xa2 := T1.out.a.c2
  have xa3 := T1.out.a.c3
  have xb0 := T1.out.b.c0
  have xb1 := T1.out.b.c1
  have xb2 := T1.out.b.c2
  have xb3 := T1.out.b.c3
  have xc0 := T1.out.c.c0
  have xc1 := T1.out.c.c1
  have xc2 := T1.out.c.c2
  have xc3 := T1.out.c.c3
  go_wp2_with fail
  refine (awake2_any _).mono ?_
  rintro e y ⟨rfl, hc⟩
  have B := Lib.hid (T1.out.below.trans (hc.mono T1.out.below.size))
  clear hc xa0 xa1 xa2 xa3 xb0 xb1 xb2 xb3 xc0 xc1 xc2 xc3
  go_wp2
  exact bodyPost_ret (v := .bool true) (by simp [results, Try.results17, go_sem, *]) rfl ⟨rfl, B.out⟩
set_option maxRecDepth 100000 in
set_option maxHeartbeats 6400000 in
theorem wi_b (v1 : Value) (L1 : List R3) (k1 s1 h1 : Int) (v2 : Value) (L2 : List R3) (k2 s2 h2 : Int) (v3 : Value) (L3 : List R3) (k3 s3 h3 : Int) (w : World) (hr1 : Rd w v1 L1) (hL1 : Ok3 L1) (hr2 : Rd w v2 L2) (hL2 : Ok3 L2) (hr3 : Rd w v3 L3) (hL3 : Ok3 L3) (g1 : dchk L1 k1 s1 h1 = 0) (c2n : ¬ dchk L2 k2 s2 h2 = 0) :
    Calls Try.prog 17 #[.agg #[v1, .int .i64 k1, .int .i64 s1, .int .i64 h1], .agg #[v2, .int .i64 k2, .int .i64 s2, .int .i64 h2], .agg #[v3, .int .i64 k3, .int .i64 s3, .int .i64 h3]] w fun e w' => e = .returned (.bool true) ∧ Below w.heap.size w w' := by
  have cg1 : (dchk L1 k1 s1 h1 != 0) = false := by simp [g1]
  have cb2 : (dchk L2 k2 s2 h2 != 0) = true := by simp [c2n]
  clear c2n g1
  have HL1 := Lib.hid hL1
  have HR1 : Hid (Rd w v1 L1) := Lib.hid hr1
  have HL2 := Lib.hid hL2
  have HR2 : Hid (Rd w v2 L2) := Lib.hid hr2
  have HL3 := Lib.hid hL3
  have HR3 : Hid (Rd w v3 L3) := Lib.hid hr3
  obtain ⟨o1, c1, rfl, _⟩ := hr1
  obtain ⟨o2, c2, rfl, _⟩ := hr2
  obtain ⟨o3, c3, rfl, _⟩ := hr3
  clear hL1 hL2 hL3
  go_enter Try.func17, Try.ntmps17
  go_upto_region 1 with fail
  have T0 := D3.new w (.slice o1 L1.length c1) k1 s1 h1 (.slice o2 L2.length c2) k2 s2 h2 (.slice o3 L3.length c3) k3 s3 h3
  generalize ((w.alloc (.cells #[.slice o1 L1.length c1, .int .i64 k1, .int .i64 s1, .int .i64 h1] 62)).alloc (.cells #[.slice o2 L2.length c2, .int .i64 k2, .int .i64 s2, .int .i64 h2] 62)).alloc (.cells #[.slice o3 L3.length c3, .int .i64 k3, .int .i64 s3, .int .i64 h3] 62) = u0 at *
  replace T0 := Lib.hid T0
  have xa0 := T0.out.a.c0
  have xa1 := T0.out.a.c1
  have xa2 := T0.out.a.c2
  have xa3 := T0.out.a.c3
  go_wp2_with fail
  refine (Dcheck_any _ L1 k1 s1 h1 _ (HR1.out.keep T0.out.below) HL1.out).mono ?_
  rintro e u1 ⟨rfl, hb⟩
  have T1 := Lib.hid (T0.out.keep hb)
  clear hb T0
  clear xa0 xa1 xa2 xa3
  have xb0 := T1.out.b.c0
  have xb1 := T1.out.b.c1
  have xb2 := T1.out.b.c2
  have xb3 := T1.out.b.c3
  go_wp2_with fail
  refine (Dcheck_any _ L2 k2 s2 h2 _ (HR2.out.keep T1.out.below) HL2.out).mono ?_
  rintro e u2 ⟨rfl, hb⟩
  have T2 := Lib.hid (T1.out.keep hb)
  clear hb T1
  clear xb0 xb1 xb2 xb3
  have xa0 := T2.out.a.c0
  have xa1 := T2.out.a.c1
  have xa2 := T2.out.a.c2
  have xa3 := T2.out.a.c3
  have xb0 := T2.out.b.c0
  have xb1 := T2.out.b.c1
  have xb2 := T2.out.b.c2
  have xb3 := T2.out.b.c3
  have xc0 := T2.out.c.c0
  have xc1 := T2.out.c.c1
  have xc2 := T2.out.c.c2
  have xc3 := T2.out.c.c3
  go_wp2_with fail
  refine (awake2_any _).mono ?_
  rintro e y ⟨rfl, hc⟩
  have B := Lib.hid (T2.out.below.trans (hc.mono T2.out.below.size))
  clear hc xa0 xa1 xa2 xa3 xb0 xb1 xb2 xb3 xc0 xc1 xc2 xc3
  go_wp2
  exact bodyPost_ret (v := .bool true) (by simp [results, Try.results17, go_sem, *]) rfl ⟨rfl, B.out⟩
set_option maxRecDepth 100000 in
set_option maxHeartbeats 6400000 in
theorem wi_c (v1 : Value) (L1 : List R3) (k1 s1 h1 : Int) (v2 : Value) (L2 : List R3) (k2 s2 h2 : Int) (v3 : Value) (L3 : List R3) (k3 s3 h3 : Int) (w : World) (hr1 : Rd w v1 L1) (hL1 : Ok3 L1) (hr2 : Rd w v2 L2) (hL2 : Ok3 L2) (hr3 : Rd w v3 L3) (hL3 : Ok3 L3) (g1 : dchk L1 k1 s1 h1 = 0) (g2 : dchk L2 k2 s2 h2 = 0) (c3n : ¬ dchk L3 k3 s3 h3 = 0) :
    Calls Try.prog 17 #[.agg #[v1, .int .i64 k1, .int .i64 s1, .int .i64 h1], .agg #[v2, .int .i64 k2, .int .i64 s2, .int .i64 h2], .agg #[v3, .int .i64 k3, .int .i64 s3, .int .i64 h3]] w fun e w' => e = .returned (.bool true) ∧ Below w.heap.size w w' := by
  have cg1 : (dchk L1 k1 s1 h1 != 0) = false := by simp [g1]
  have cg2 : (dchk L2 k2 s2 h2 != 0) = false := by simp [g2]
  have cb3 : (dchk L3 k3 s3 h3 != 0) = true := by simp [c3n]
  clear c3n g1 g2
  have HL1 := Lib.hid hL1
  have HR1 : Hid (Rd w v1 L1) := Lib.hid hr1
  have HL2 := Lib.hid hL2
  have HR2 : Hid (Rd w v2 L2) := Lib.hid hr2
  have HL3 := Lib.hid hL3
  have HR3 : Hid (Rd w v3 L3) := Lib.hid hr3
  obtain ⟨o1, c1, rfl, _⟩ := hr1
  obtain ⟨o2, c2, rfl, _⟩ := hr2
  obtain ⟨o3, c3, rfl, _⟩ := hr3
  clear hL1 hL2 hL3
  go_enter Try.func17, Try.ntmps17
  go_upto_region 1 with fail
  have T0 := D3.new w (.slice o1 L1.length c1) k1 s1 h1 (.slice o2 L2.length c2) k2 s2 h2 (.slice o3 L3.length c3) k3 s3 h3
  generalize ((w.alloc (.cells #[.slice o1 L1.length c1, .int .i64 k1, .int .i64 s1, .int .i64 h1] 62)).alloc (.cells #[.slice o2 L2.length c2, .int .i64 k2, .int .i64 s2, .int .i64 h2] 62)).alloc (.cells #[.slice o3 L3.length c3, .int .i64 k3, .int .i64 s3, .int .i64 h3] 62) = u0 at *
  replace T0 := Lib.hid T0
  have xa0 := T0.out.a.c0
  have xa1 := T0.out.a.c1
  have xa2 := T0.out.a.c2
  have xa3 := T0.out.a.c3
  go_wp2_with fail
  refine (Dcheck_any _ L1 k1 s1 h1 _ (HR1.out.keep T0.out.below) HL1.out).mono ?_
  rintro e u1 ⟨rfl, hb⟩
  have T1 := Lib.hid (T0.out.keep hb)
  clear hb T0
  clear xa0 xa1 xa2 xa3
  have xb0 := T1.out.b.c0
  have xb1 := T1.out.b.c1
  have xb2 := T1.out.b.c2
  have xb3 := T1.out.b.c3
  go_wp2_with fail
  refine (Dcheck_any _ L2 k2 s2 h2 _ (HR2.out.keep T1.out.below) HL2.out).mono ?_
  rintro e u2 ⟨rfl, hb⟩
  have T2 := Lib.hid (T1.out.keep hb)
  clear hb T1
  clear xb0 xb1 xb2 xb3
  have xc0 := T2.out.c.c0
  have xc1 := T2.out.c.c1
  have xc2 := T2.out.c.c2
  have xc3 := T2.out.c.c3
  go_wp2_with fail
  refine (Dcheck_any _ L3 k3 s3 h3 _ (HR3.out.keep T2.out.below) HL3.out).mono ?_
  rintro e u3 ⟨rfl, hb⟩
  have T3 := Lib.hid (T2.out.keep hb)
  clear hb T2
  clear xc0 xc1 xc2 xc3
  have xa0 := T3.out.a.c0
  have xa1 := T3.out.a.c1
  have xa2 := T3.out.a.c2
  have xa3 := T3.out.a.c3
  have xb0 := T3.out.b.c0
  have xb1 := T3.out.b.c1
  have xb2 := T3.out.b.c2
  have xb3 := T3.out.b.c3
  have xc0 := T3.out.c.c0
  have xc1 := T3.out.c.c1
  have xc2 := T3.out.c.c2
  have xc3 := T3.out.c.c3
  go_wp2_with fail
  refine (awake2_any _).mono ?_
  rintro e y ⟨rfl, hc⟩
  have B := Lib.hid (T3.out.below.trans (hc.mono T3.out.below.size))
  clear hc xa0 xa1 xa2 xa3 xb0 xb1 xb2 xb3 xc0 xc1 xc2 xc3
  go_wp2
  exact bodyPost_ret (v := .bool true) (by simp [results, Try.results17, go_sem, *]) rfl ⟨rfl, B.out⟩
set_option maxRecDepth 100000 in
set_option maxHeartbeats 6400000 in
theorem wi_l (v1 : Value) (L1 : List R3) (k1 s1 h1 : Int) (v2 : Value) (L2 : List R3) (k2 s2 h2 : Int) (v3 : Value) (L3 : List R3) (k3 s3 h3 : Int) (w : World) (hr1 : Rd w v1 L1) (hL1 : Ok3 L1) (hr2 : Rd w v2 L2) (hL2 : Ok3 L2) (hr3 : Rd w v3 L3) (hL3 : Ok3 L3) (g1 : dchk L1 k1 s1 h1 = 0) (g2 : dchk L2 k2 s2 h2 = 0) (g3 : dchk L3 k3 s3 h3 = 0) (hl : ¬ L1.length = L2.length) :
    Calls Try.prog 17 #[.agg #[v1, .int .i64 k1, .int .i64 s1, .int .i64 h1], .agg #[v2, .int .i64 k2, .int .i64 s2, .int .i64 h2], .agg #[v3, .int .i64 k3, .int .i64 s3, .int .i64 h3]] w fun e w' => e = .returned (.bool true) ∧ Below w.heap.size w w' := by
  have cg1 : (dchk L1 k1 s1 h1 != 0) = false := by simp [g1]
  have cg2 : (dchk L2 k2 s2 h2 != 0) = false := by simp [g2]
  have cg3 : (dchk L3 k3 s3 h3 != 0) = false := by simp [g3]
  have cl : ((L1.length : Int) != (L2.length : Int)) = true := by simp; omega
  clear hl g1 g2 g3
  have HL1 := Lib.hid hL1
  have HR1 : Hid (Rd w v1 L1) := Lib.hid hr1
  have HL2 := Lib.hid hL2
  have HR2 : Hid (Rd w v2 L2) := Lib.hid hr2
  have HL3 := Lib.hid hL3
  have HR3 : Hid (Rd w v3 L3) := Lib.hid hr3
  obtain ⟨o1, c1, rfl, _⟩ := hr1
  obtain ⟨o2, c2, rfl, _⟩ := hr2
  obtain ⟨o3, c3, rfl, _⟩ := hr3
  clear hL1 hL2 hL3
  go_enter Try.func17, Try.ntmps17
  go_upto_region 1 with fail
  have T0 := D3.new w (.slice o1 L1.length c1) k1 s1 h1 (.slice o2 L2.length c2) k2 s2 h2 (.slice o3 L3.length c3) k3 s3 h3
  generalize ((w.alloc (.cells #[.slice o1 L1.length c1, .int .i64 k1, .int .i64 s1, .int .i64 h1] 62)).alloc (.cells #[.slice o2 L2.length c2, .int .i64 k2, .int .i64 s2, .int .i64 h2] 62)).alloc (.cells #[.slice o3 L3.length c3, .int .i64 k3, .int .i64 s3, .int .i64 h3] 62) = u0 at *
  replace T0 := Lib.hid T0
  have xa0 := T0.out.a.c0
  have xa1 := T0.out.a.c1
  have xa2 := T0.out.a.c2
  have xa3 := T0.out.a.c3
  go_wp2_with fail
  refine (Dcheck_any _ L1 k1 s1 h1 _ (HR1.out.keep T0.out.below) HL1.out).mono ?_
  rintro e u1 ⟨rfl, hb⟩
  have T1 := Lib.hid (T0.out.keep hb)
  clear hb T0
  clear xa0 xa1 xa2 xa3
  have xb0 := T1.out.b.c0
  have xb1 := T1.out.b.c1
  have xb2 := T1.out.b.c2
  have xb3 := T1.out.b.c3
  go_wp2_with fail
  refine (Dcheck_any _ L2 k2 s2 h2 _ (HR2.out.keep T1.out.below) HL2.out).mono ?_
  rintro e u2 ⟨rfl, hb⟩
  have T2 := Lib.hid (T1.out.keep hb)
  clear hb T1
  clear xb0 xb1 xb2 xb3
  have xc0 := T2.out.c.c0
  have xc1 := T2.out.c.c1
  have xc2 := T2.out.c.c2
  have xc3 := T2.out.c.c3
  go_wp2_with fail
  refine (Dcheck_any _ L3 k3 s3 h3 _ (HR3.out.keep T2.out.below) HL3.out).mono ?_
  rintro e u3 ⟨rfl, hb⟩
  have T3 := Lib.hid (T2.out.keep hb)
  clear hb T2
  clear xc0 xc1 xc2 xc3
  have xa0 := T3.out.a.c0
  have xa1 := T3.out.a.c1
  have xa2 := T3.out.a.c2
  have xa3 := T3.out.a.c3
  have xb0 := T3.out.b.c0
  have xb1 := T3.out.b.c1
  have xb2 := T3.out.b.c2
  have xb3 := T3.out.b.c3
  have xc0 := T3.out.c.c0
  have xc1 := T3.out.c.c1
  have xc2 := T3.out.c.c2
  have xc3 := T3.out.c.c3
  go_wp2_with fail
  refine (awake2_any _).mono ?_
  rintro e y ⟨rfl, hc⟩
  have B := Lib.hid (T3.out.below.trans (hc.mono T3.out.below.size))
  clear hc xa0 xa1 xa2 xa3 xb0 xb1 xb2 xb3 xc0 xc1 xc2 xc3
  go_wp2
  exact bodyPost_ret (v := .bool true) (by simp [results, Try.results17, go_sem, *]) rfl ⟨rfl, B.out⟩
set_option maxRecDepth 100000 in
set_option maxHeartbeats 6400000 in
theorem wi_m (v1 : Value) (L1 : List R3) (k1 s1 h1 : Int) (v2 : Value) (L2 : List R3) (k2 s2 h2 : Int) (v3 : Value) (L3 : List R3) (k3 s3 h3 : Int) (w : World) (hr1 : Rd w v1 L1) (hL1 : Ok3 L1) (hr2 : Rd w v2 L2) (hL2 : Ok3 L2) (hr3 : Rd w v3 L3) (hL3 : Ok3 L3) (g1 : dchk L1 k1 s1 h1 = 0) (g2 : dchk L2 k2 s2 h2 = 0) (g3 : dchk L3 k3 s3 h3 = 0) (hl : L1.length = L2.length) (hm : ¬ L1.length = L3.length) :
    Calls Try.prog 17 #[.agg #[v1, .int .i64 k1, .int .i64 s1, .int .i64 h1], .agg #[v2, .int .i64 k2, .int .i64 s2, .int .i64 h2], .agg #[v3, .int .i64 k3, .int .i64 s3, .int .i64 h3]] w fun e w' => e = .returned (.bool true) ∧ Below w.heap.size w w' := by
  have cg1 : (dchk L1 k1 s1 h1 != 0) = false := by simp [g1]
  have cg2 : (dchk L2 k2 s2 h2 != 0) = false := by simp [g2]
  have cg3 : (dchk L3 k3 s3 h3 != 0) = false := by simp [g3]
  have cl : ((L1.length : Int) != (L2.length : Int)) = false := by simp; omega
  have cm : ((L1.length : Int) != (L3.length : Int)) = true := by simp; omega
  clear hl hm g1 g2 g3
  have HL1 := Lib.hid hL1
  have HR1 : Hid (Rd w v1 L1) := Lib.hid hr1
  have HL2 := Lib.hid hL2
  have HR2 : Hid (Rd w v2 L2) := Lib.hid hr2
  have HL3 := Lib.hid hL3
  have HR3 : Hid (Rd w v3 L3) := Lib.hid hr3
  obtain ⟨o1, c1, rfl, _⟩ := hr1
  obtain ⟨o2, c2, rfl, _⟩ := hr2
  obtain ⟨o3, c3, rfl, _⟩ := hr3
  clear hL1 hL2 hL3
  go_enter Try.func17, Try.ntmps17
  go_upto_region 1 with fail
  have T0 := D3.new w (.slice o1 L1.length c1) k1 s1 h1 (.slice o2 L2.length c2) k2 s2 h2 (.slice o3 L3.length c3) k3 s3 h3
  generalize ((w.alloc (.cells #[.slice o1 L1.length c1, .int .i64 k1, .int .i64 s1, .int .i64 h1] 62)).alloc (.cells #[.slice o2 L2.length c2, .int .i64 k2, .int .i64 s2, .int .i64 h2] 62)).alloc (.cells #[.slice o3 L3.length c3, .int .i64 k3, .int .i64 s3, .int .i64 h3] 62) = u0 at *
  replace T0 := Lib.hid T0
  have xa0 := T0.out.a.c0
  have xa1 := T0.out.a.c1
  have xa2 := T0.out.a.c2
  have xa3 := T0.out.a.c3
  go_wp2_with fail
  refine (Dcheck_any _ L1 k1 s1 h1 _ (HR1.out.keep T0.out.below) HL1.out).mono ?_
  rintro e u1 ⟨rfl, hb⟩
  have T1 := Lib.hid (T0.out.keep hb)
  clear hb T0
  clear xa0 xa1 xa2 xa3
  have xb0 := T1.out.b.c0
  have xb1 := T1.out.b.c1
  have xb2 := T1.out.b.c2
  have xb3 := T1.out.b.c3
  go_wp2_with fail
  refine (Dcheck_any _ L2 k2 s2 h2 _ (HR2.out.keep T1.out.below) HL2.out).mono ?_
  rintro e u2 ⟨rfl, hb⟩
  have T2 := Lib.hid (T1.out.keep hb)
  clear hb T1
  clear xb0 xb1 xb2 xb3
  have xc0 := T2.out.c.c0
  have xc1 := T2.out.c.c1
  have xc2 := T2.out.c.c2
  have xc3 := T2.out.c.c3
  go_wp2_with fail
  refine (Dcheck_any _ L3 k3 s3 h3 _ (HR3.out.keep T2.out.below) HL3.out).mono ?_
  rintro e u3 ⟨rfl, hb⟩
  have T3 := Lib.hid (T2.out.keep hb)
  clear hb T2
  clear xc0 xc1 xc2 xc3
  have xa0 := T3.out.a.c0
  have xa1 := T3.out.a.c1
  have xa2 := T3.out.a.c2
  have xa3 := T3.out.a.c3
  have xb0 := T3.out.b.c0
  have xb1 := T3.out.b.c1
  have xb2 := T3.out.b.c2
  have xb3 := T3.out.b.c3
  have xc0 := T3.out.c.c0
  have xc1 := T3.out.c.c1
  have xc2 := T3.out.c.c2
  have xc3 := T3.out.c.c3
  go_wp2_with fail
  refine (awake2_any _).mono ?_
  rintro e y ⟨rfl, hc⟩
  have B := Lib.hid (T3.out.below.trans (hc.mono T3.out.below.size))
  clear hc xa0 xa1 xa2 xa3 xb0 xb1 xb2 xb3 xc0 xc1 xc2 xc3
  go_wp2
  exact bodyPost_ret (v := .bool true) (by simp [results, Try.results17, go_sem, *]) rfl ⟨rfl, B.out⟩
set_option maxRecDepth 100000 in
set_option maxHeartbeats 6400000 in
theorem wi_good (v1 : Value) (L1 : List R3) (k1 s1 h1 : Int) (v2 : Value) (L2 : List R3) (k2 s2 h2 : Int) (v3 : Value) (L3 : List R3) (k3 s3 h3 : Int) (w : World) (hr1 : Rd w v1 L1) (hL1 : Ok3 L1) (hr2 : Rd w v2 L2) (hL2 : Ok3 L2) (hr3 : Rd w v3 L3) (hL3 : Ok3 L3) (g1 : dchk L1 k1 s1 h1 = 0) (g2 : dchk L2 k2 s2 h2 = 0) (g3 : dchk L3 k3 s3 h3 = 0) (hl : L1.length = L2.length) (hm : L1.length = L3.length) :
    Calls Try.prog 17 #[.agg #[v1, .int .i64 k1, .int .i64 s1, .int .i64 h1], .agg #[v2, .int .i64 k2, .int .i64 s2, .int .i64 h2], .agg #[v3, .int .i64 k3, .int .i64 s3, .int .i64 h3]] w fun e w' => e = .returned (.bool true) ∧ Below w.heap.size w w' := by
  have cg1 : (dchk L1 k1 s1 h1 != 0) = false := by simp [g1]
  have cg2 : (dchk L2 k2 s2 h2 != 0) = false := by simp [g2]
  have cg3 : (dchk L3 k3 s3 h3 != 0) = false := by simp [g3]
  have cl : ((L1.length : Int) != (L2.length : Int)) = false := by simp; omega
  have cm : ((L1.length : Int) != (L3.length : Int)) = false := by simp; omega
  have G1 := Lib.hid g1
  have G2 := Lib.hid g2
  have G3 := Lib.hid g3
  have HE2 := Lib.hid hl
  have HE3 := Lib.hid hm
  clear hl hm g1 g2 g3
  have HL1 := Lib.hid hL1
  have HR1 : Hid (Rd w v1 L1) := Lib.hid hr1
  have HL2 := Lib.hid hL2
  have HR2 : Hid (Rd w v2 L2) := Lib.hid hr2
  have HL3 := Lib.hid hL3
  have HR3 : Hid (Rd w v3 L3) := Lib.hid hr3
  obtain ⟨o1, c1, rfl, _⟩ := hr1
  obtain ⟨o2, c2, rfl, _⟩ := hr2
  obtain ⟨o3, c3, rfl, _⟩ := hr3
  clear hL1 hL2 hL3
  go_enter Try.func17, Try.ntmps17
  go_upto_region 1 with fail
  have T0 := D3.new w (.slice o1 L1.length c1) k1 s1 h1 (.slice o2 L2.length c2) k2 s2 h2 (.slice o3 L3.length c3) k3 s3 h3
  generalize ((w.alloc (.cells #[.slice o1 L1.length c1, .int .i64 k1, .int .i64 s1, .int .i64 h1] 62)).alloc (.cells #[.slice o2 L2.length c2, .int .i64 k2, .int .i64 s2, .int .i64 h2] 62)).alloc (.cells #[.slice o3 L3.length c3, .int .i64 k3, .int .i64 s3, .int .i64 h3] 62) = u0 at *
  replace T0 := Lib.hid T0
  have xa0 := T0.out.a.c0
  have xa1 := T0.out.a.c1
  have xa2 := T0.out.a.c2
  have xa3 := T0.out.a.c3
  go_wp2_with fail
  refine (Dcheck_any _ L1 k1 s1 h1 _ (HR1.out.keep T0.out.below) HL1.out).mono ?_
  rintro e u1 ⟨rfl, hb⟩
  have T1 := Lib.hid (T0.out.keep hb)
  clear hb T0
  clear xa0 xa1 xa2 xa3
  have xb0 := T1.out.b.c0
  have xb1 := T1.out.b.c1
  have xb2 := T1.out.b.c2
  have xb3 := T1.out.b.c3
  go_wp2_with fail
  refine (Dcheck_any _ L2 k2 s2 h2 _ (HR2.out.keep T1.out.below) HL2.out).mono ?_
  rintro e u2 ⟨rfl, hb⟩
  have T2 := Lib.hid (T1.out.keep hb)
  clear hb T1
  clear xb0 xb1 xb2 xb3
  have xc0 := T2.out.c.c0
  have xc1 := T2.out.c.c1
  have xc2 := T2.out.c.c2
  have xc3 := T2.out.c.c3
  go_wp2_with fail
  refine (Dcheck_any _ L3 k3 s3 h3 _ (HR3.out.keep T2.out.below) HL3.out).mono ?_
  rintro e u3 ⟨rfl, hb⟩
  have T3 := Lib.hid (T2.out.keep hb)
  clear hb T2
  clear xc0 xc1 xc2 xc3
  have xa0 := T3.out.a.c0
  have xa1 := T3.out.a.c1
  have xa2 := T3.out.a.c2
  have xa3 := T3.out.a.c3
  have yb0 := T3.out.b.c0
  have yb1 := T3.out.b.c1
  have yb2 := T3.out.b.c2
  have yb3 := T3.out.b.c3
  have yc0 := T3.out.c.c0
  have yc1 := T3.out.c.c1
  have yc2 := T3.out.c.c2
  have yc3 := T3.out.c.c3
  go_wp2_with fail
  refine (Dwin_any _ L1 k1 s1 h1 _ L1 k1 s1 h1 _ (HR1.out.keep T3.out.below) HL1.out (HR1.out.keep T3.out.below) HL1.out).mono ?_
  rintro e z1 ⟨aa, er, rfl, hb, hq⟩
  obtain ⟨rfl, Qaa⟩ := win_ret G1.out G1.out rfl hq
  have T4 := Lib.hid (T3.out.keep hb)
  clear hb hq T3 xa0 xa1 xa2 xa3
  clear cl cm cg1 cg2 cg3 yb0 yb1 yb2 yb3 yc0 yc1 yc2 yc3
  have xa0 := T4.out.a.c0
  have xa1 := T4.out.a.c1
  have xa2 := T4.out.a.c2
  have xa3 := T4.out.a.c3
  have xb0 := T4.out.b.c0
  have xb1 := T4.out.b.c1
  have xb2 := T4.out.b.c2
  have xb3 := T4.out.b.c3
  go_wp2_with fail
  refine (Dwin_any _ L1 k1 s1 h1 _ L2 k2 s2 h2 _ (HR1.out.keep T4.out.below) HL1.out (HR2.out.keep T4.out.below) HL2.out).mono ?_
  rintro e z2 ⟨ab, er, rfl, hb, hq⟩
  obtain ⟨rfl, Qab⟩ := win_ret G1.out G2.out HE2.out hq
  have T5 := Lib.hid (T4.out.keep hb)
  clear hb hq T4 xa0 xa1 xa2 xa3 xb0 xb1 xb2 xb3
  have xb0 := T5.out.b.c0
  have xb1 := T5.out.b.c1
  have xb2 := T5.out.b.c2
  have xb3 := T5.out.b.c3
  have xc0 := T5.out.c.c0
  have xc1 := T5.out.c.c1
  have xc2 := T5.out.c.c2
  have xc3 := T5.out.c.c3
  go_wp2_with fail
  refine (Dwin_any _ L2 k2 s2 h2 _ L3 k3 s3 h3 _ (HR2.out.keep T5.out.below) HL2.out (HR3.out.keep T5.out.below) HL3.out).mono ?_
  rintro e z3 ⟨bc, er, rfl, hb, hq⟩
  obtain ⟨rfl, Qbc⟩ := win_ret G2.out G3.out (HE2.out.symm.trans HE3.out) hq
  have T6 := Lib.hid (T5.out.keep hb)
  clear hb hq T5 xb0 xb1 xb2 xb3 xc0 xc1 xc2 xc3
  have xa0 := T6.out.a.c0
  have xa1 := T6.out.a.c1
  have xa2 := T6.out.a.c2
  have xa3 := T6.out.a.c3
  have xc0 := T6.out.c.c0
  have xc1 := T6.out.c.c1
  have xc2 := T6.out.c.c2
  have xc3 := T6.out.c.c3
  go_wp2_with fail
  refine (Dwin_any _ L1 k1 s1 h1 _ L3 k3 s3 h3 _ (HR1.out.keep T6.out.below) HL1.out (HR3.out.keep T6.out.below) HL3.out).mono ?_
  rintro e z4 ⟨ac, er, rfl, hb, hq⟩
  obtain ⟨rfl, Qac⟩ := win_ret G1.out G3.out HE3.out hq
  have T7 := Lib.hid (T6.out.keep hb)
  clear hb hq T6 xa0 xa1 xa2 xa3 xc0 xc1 xc2 xc3
  have xa0 := T7.out.a.c0
  have xa1 := T7.out.a.c1
  have xa2 := T7.out.a.c2
  have xa3 := T7.out.a.c3
  have xb0 := T7.out.b.c0
  have xb1 := T7.out.b.c1
  have xb2 := T7.out.b.c2
  have xb3 := T7.out.b.c3
  go_wp2_with fail
  refine (Dwin_any _ L2 k2 s2 h2 _ L1 k1 s1 h1 _ (HR2.out.keep T7.out.below) HL2.out (HR1.out.keep T7.out.below) HL1.out).mono ?_
  rintro e z5 ⟨ba, er, rfl, hb, hq⟩
  obtain ⟨rfl, Qba⟩ := win_ret G2.out G1.out HE2.out.symm hq
  have T8 := Lib.hid (T7.out.keep hb)
  clear hb hq T7 xa0 xa1 xa2 xa3 xb0 xb1 xb2 xb3
  obtain ⟨rfl, tr, e0⟩ := wi_true G1.out G2.out G3.out HE2.out HE3.out Qaa.out Qab.out Qbc.out Qac.out Qba.out
  have E := Lib.hid e0
  clear e0 Qaa Qab Qbc Qac Qba
  cases ab
  · replace E : Hid (dsame L1 k1 s1 h1 L2 k2 s2 h2 = false) := E
    clear tr
    have hmx := @run_max_five Try.prog
    have xa0 := T8.out.a.c0
    have xa1 := T8.out.a.c1
    have xa2 := T8.out.a.c2
    have xa3 := T8.out.a.c3
    have xb0 := T8.out.b.c0
    have xb1 := T8.out.b.c1
    have xb2 := T8.out.b.c2
    have xb3 := T8.out.b.c3
    go_wp2_with fail
    refine (Dsame_any _ L1 k1 s1 h1 _ L2 k2 s2 h2 _ (HR1.out.keep T8.out.below) HL1.out (HR2.out.keep T8.out.below) HL2.out).mono ?_
    rintro e u9 ⟨rfl, hb⟩
    rw [E.out]
    clear hmx
    have T9 := Lib.hid (T8.out.keep hb)
    clear hb T8
    clear xa0 xa1 xa2 xa3 xb0 xb1 xb2 xb3
    go_wp2_with fail
    refine (awake2_any _).mono ?_
    rintro e y ⟨rfl, hc⟩
    have B := Lib.hid (T9.out.below.trans (hc.mono T9.out.below.size))
    clear hc
    go_wp2
    exact bodyPost_ret (v := .bool true) (by simp [results, Try.results17, go_sem, *]) rfl ⟨rfl, B.out⟩
  · cases bc
    · replace E : Hid (dsame L1 k1 s1 h1 L2 k2 s2 h2 = ba) := Lib.hid (by rw [E.out]; simp)
      clear tr
      have hmx := @run_max_five Try.prog
      have xa0 := T8.out.a.c0
      have xa1 := T8.out.a.c1
      have xa2 := T8.out.a.c2
      have xa3 := T8.out.a.c3
      have xb0 := T8.out.b.c0
      have xb1 := T8.out.b.c1
      have xb2 := T8.out.b.c2
      have xb3 := T8.out.b.c3
      go_wp2_with fail
      refine (Dsame_any _ L1 k1 s1 h1 _ L2 k2 s2 h2 _ (HR1.out.keep T8.out.below) HL1.out (HR2.out.keep T8.out.below) HL2.out).mono ?_
      rintro e u9 ⟨rfl, hb⟩
      rw [E.out]
      clear hmx
      have T9 := Lib.hid (T8.out.keep hb)
      clear hb T8
      clear xa0 xa1 xa2 xa3 xb0 xb1 xb2 xb3
      go_wp2_with fail
      refine (awake2_any _).mono ?_
      rintro e y ⟨rfl, hc⟩
      have B := Lib.hid (T9.out.below.trans (hc.mono T9.out.below.size))
      clear hc
      go_wp2
      exact bodyPost_ret (v := .bool true) (by simp [results, Try.results17, go_sem, *]) rfl ⟨rfl, B.out⟩
    · obtain rfl : ac = true := tr rfl rfl
      replace E : Hid (dsame L1 k1 s1 h1 L2 k2 s2 h2 = ba) := Lib.hid (by rw [E.out]; simp)
      clear tr
      have hmx := @run_max_five Try.prog
      have xa0 := T8.out.a.c0
      have xa1 := T8.out.a.c1
      have xa2 := T8.out.a.c2
      have xa3 := T8.out.a.c3
      have xb0 := T8.out.b.c0
      have xb1 := T8.out.b.c1
      have xb2 := T8.out.b.c2
      have xb3 := T8.out.b.c3
      go_wp2_with fail
      refine (Dsame_any _ L1 k1 s1 h1 _ L2 k2 s2 h2 _ (HR1.out.keep T8.out.below) HL1.out (HR2.out.keep T8.out.below) HL2.out).mono ?_
      rintro e u9 ⟨rfl, hb⟩
      rw [E.out]
      clear hmx
      have T9 := Lib.hid (T8.out.keep hb)
      clear hb T8
      clear xa0 xa1 xa2 xa3 xb0 xb1 xb2 xb3
      go_wp2_with fail
      refine (awake2_any _).mono ?_
      rintro e y ⟨rfl, hc⟩
      have B := Lib.hid (T9.out.below.trans (hc.mono T9.out.below.size))
      clear hc
      go_wp2
      exact bodyPost_ret (v := .bool true) (by simp [results, Try.results17, go_sem, *]) rfl ⟨rfl, B.out⟩
theorem domainWithin_walk (v1 : Value) (L1 : List R3) (k1 s1 h1 : Int) (v2 : Value) (L2 : List R3) (k2 s2 h2 : Int) (v3 : Value) (L3 : List R3) (k3 s3 h3 : Int) (w : World) (hr1 : Rd w v1 L1) (hL1 : Ok3 L1) (hr2 : Rd w v2 L2) (hL2 : Ok3 L2) (hr3 : Rd w v3 L3) (hL3 : Ok3 L3) :
    Calls Try.prog 17 #[.agg #[v1, .int .i64 k1, .int .i64 s1, .int .i64 h1], .agg #[v2, .int .i64 k2, .int .i64 s2, .int .i64 h2], .agg #[v3, .int .i64 k3, .int .i64 s3, .int .i64 h3]] w fun e w' => e = .returned (.bool true) ∧ Below w.heap.size w w' := by
  by_cases g1 : dchk L1 k1 s1 h1 = 0
  · by_cases g2 : dchk L2 k2 s2 h2 = 0
    · by_cases g3 : dchk L3 k3 s3 h3 = 0
      · by_cases l2 : L1.length = L2.length
        · by_cases l3 : L1.length = L3.length
          · exact wi_good v1 L1 k1 s1 h1 v2 L2 k2 s2 h2 v3 L3 k3 s3 h3 w hr1 hL1 hr2 hL2 hr3 hL3 g1 g2 g3 l2 l3
          · exact wi_m v1 L1 k1 s1 h1 v2 L2 k2 s2 h2 v3 L3 k3 s3 h3 w hr1 hL1 hr2 hL2 hr3 hL3 g1 g2 g3 l2 l3
        · exact wi_l v1 L1 k1 s1 h1 v2 L2 k2 s2 h2 v3 L3 k3 s3 h3 w hr1 hL1 hr2 hL2 hr3 hL3 g1 g2 g3 l2
      · exact wi_c v1 L1 k1 s1 h1 v2 L2 k2 s2 h2 v3 L3 k3 s3 h3 w hr1 hL1 hr2 hL2 hr3 hL3 g1 g2 g3
    · exact wi_b v1 L1 k1 s1 h1 v2 L2 k2 s2 h2 v3 L3 k3 s3 h3 w hr1 hL1 hr2 hL2 hr3 hL3 g1 g2
  · exact wi_a v1 L1 k1 s1 h1 v2 L2 k2 s2 h2 v3 L3 k3 s3 h3 w hr1 hL1 hr2 hL2 hr3 hL3 g1
end Go.Proofs.Ytabgphlpdoockaa
