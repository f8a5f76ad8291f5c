/-
  Part 21: PPC, LawWi, PPD.
-/
import Derived.Test.YtabgphlpdoockaaDr14
import Derived.Test.YtabgphlpdoockaaDr19
import Derived.Test.YtabgphlpdoockaaDr20
import Derived.BigQuiet
import Derived.Deep.CutBlock
import Derived.Deep.DeepCutAuto
import Derived.Deep.DrawnRows
import Derived.Deep.LoopGhost
import Derived.Deep.QuietTactic
import Derived.Deep.RegionHeld3
import Derived.Deep.RegionWith
import Derived.Lib.Hide
import Derived.WalkKit
import Derived.WalkLawsBesides
import Derived.WalkSpells
namespace Go.Proofs.Ytabgphlpdoockaa
open Go.RowKit
/-- a domain with indices, and small numbers for its dimensions -/
structure PG (L : List R3) (ns : List Int) : Prop where
  rk : L.length = 1 ∨ L.length = 2
  up : Up L
  pos : ∀ x ∈ L, 1 ≤ siz x.1 x.2.1 x.2.2
  len : ns.length = L.length
  sm : ∀ n ∈ ns, -20 ≤ n ∧ n ≤ 20
theorem le_of_siz {l h s : Int} (z : 1 ≤ siz l h s) : l ≤ h := by
  unfold siz at z
  by_cases c : chk l h s = 0 ∧ l ≤ h
  · exact c.2
  · rw [if_neg c] at z; omega
theorem PG.good {L : List R3} {ns : List Int} (p : PG L ns) {i : Nat} {x : R3} {n : Int} (hx : L[i]? = some x) (hn : ns[i]? = some n) : Good x n :=
  ⟨(p.up x (List.mem_of_getElem? hx)).1, le_of_siz (p.pos x (List.mem_of_getElem? hx)), (p.sm n (List.mem_of_getElem? hn)).1, (p.sm n (List.mem_of_getElem? hn)).2⟩
theorem mv_cases {g : Mv} {L : List R3} {k s h : Int} {ns : List Int} {B : Nat} {v : Value} {k' s' h' er : Int} {w : World} (p : DMvP (RMv g L ns) L k s h ns B v k' s' h' er w) (c : dchk L k s h = 0) (l : ns.length = L.length) :
    (er = 0 ∧ k' = k ∧ s' = s ∧ h' = h ∧ ∃ X : List R3, X.length = L.length ∧ (∀ (i : Nat) (x : R3), X[i]? = some x → RMv g L ns i x 0) ∧ w.ownsRow B 23 3 v X.length (cells3 X)) ∨
    (¬ er = 0 ∧ k' = 0 ∧ s' = 0 ∧ h' = 0 ∧ v = .slice none 0 0 ∧ ∃ (j : Nat) (x : R3), j < L.length ∧ RMv g L ns j x er) := by
  rcases p with ⟨c', _⟩ | ⟨_, l', _⟩ | ⟨_, _, ⟨X, a, b, e, e1, e2, e3, own⟩ | ⟨j, x, jl, r, ne, _, e, e1, e2, e3⟩⟩
  · exact absurd c c'
  · exact absurd l l'
  · exact Or.inl ⟨e, e1, e2, e3, X, a, b, own⟩
  · exact Or.inr ⟨ne, e1, e2, e3, e, j, x, jl, r⟩
theorem negs_at {ns : List Int} {i : Nat} {m : Int} (h : (negs ns)[i]? = some m) : ∃ n, ns[i]? = some n ∧ m = -n := by
  unfold negs at h
  rw [List.getElem?_map] at h
  cases hn : ns[i]? with
  | none => rw [hn] at h; cases h
  | some n => rw [hn] at h; simp at h; exact ⟨n, rfl, h.symm⟩
theorem negs_len (ns : List Int) : (negs ns).length = ns.length := List.length_map _
/-- a list of ranges, right, with numbers -/
theorem pg_of {L X : List R3} {ns : List Int} (p : PG L ns) (hl : X.length = L.length) (hu : Up X) (hp : ∀ x ∈ X, 1 ≤ siz x.1 x.2.1 x.2.2) : PG X (negs ns) :=
  ⟨by rw [hl]; exact p.rk, hu, hp, by rw [negs_len, p.len, hl], fun m hm => by
    unfold negs at hm
    obtain ⟨n, hn, rfl⟩ := List.mem_map.1 hm
    have := p.sm n hn
    omega⟩
theorem eq_of_at {L Y : List R3} (hl : Y.length = L.length) (h : ∀ (i : Nat) (y : R3), Y[i]? = some y → L[i]? = some y) : Y = L := by
  apply List.ext_getElem?
  intro i
  by_cases c : i < Y.length
  · rw [h i Y[i] (List.getElem?_eq_getElem c), List.getElem?_eq_getElem c]
  · rw [List.getElem?_eq_none (by omega), List.getElem?_eq_none (by omega)]
theorem mem_at {X : List R3} {x : R3} (h : x ∈ X) : ∃ i : Nat, X[i]? = some x := by
  obtain ⟨i, hi, e⟩ := List.getElem_of_mem h
  exact ⟨i, by rw [← e]; exact List.getElem?_eq_getElem hi⟩
/-- Translate, a dimension -/
theorem tr_at {g : Mv} (hT : ∀ x n, TrG x n (g x n)) {L : List R3} {ns : List Int} (p : PG L ns) {i : Nat} {x : R3} (r : RMv g L ns i x 0) :
    ∃ (y : R3) (n : Int), L[i]? = some y ∧ ns[i]? = some n ∧ x = (y.1 + n, y.2.1 + n, y.2.2) ∧ (chk x.1 x.2.1 x.2.2 = 0 ∧ ¬ x.2.2 < 0) ∧ siz x.1 x.2.1 x.2.2 = siz y.1 y.2.1 y.2.2 := by
  obtain ⟨y, n, hy, hn, rfl, e⟩ := r
  have G := p.good hy hn
  have t := hT y n G
  refine ⟨y, n, hy, hn, ?_⟩
  by_cases out : y.1 + n < -1000000 ∨ 1000000 < y.2.1 + n
  · rw [if_pos out] at t; omega
  · rw [if_neg out] at t
    rw [t]
    have hc : chk (y.1 + n) (y.2.1 + n) y.2.2 = 0 := by
      rw [chk_ends G.1 G.2.1 _ _ (by have := G.2.1; omega) (fun e => one_of G.1 (by omega)) (by rw [show y.2.1 + n - (y.1 + n) = y.2.1 - y.1 by omega]; exact (rmem_hi G.1 G.2.1).2.2), if_neg out]
    exact ⟨rfl, ⟨hc, (p.up y (List.mem_of_getElem? hy)).2⟩, by
      have := siz_ends G.1 G.2.1 (y.1 + n) (y.2.1 + n) hc (by have := G.2.1; omega) 0 (by rw [Int.add_zero, ← (steps_a G.1 G.2.1).1]; omega)
      rw [Int.add_zero] at this; exact this⟩
theorem tr_pg {g : Mv} (hT : ∀ x n, TrG x n (g x n)) {L X : List R3} {ns : List Int} (p : PG L ns) (hl : X.length = L.length) (hX : ∀ (i : Nat) (x : R3), X[i]? = some x → RMv g L ns i x 0) : PG X (negs ns) := by
  refine pg_of p hl (fun x hx => ?_) (fun x hx => ?_)
  · obtain ⟨i, hi⟩ := mem_at hx
    obtain ⟨_, _, _, _, _, h, _⟩ := tr_at hT p (hX i x hi)
    exact h
  · obtain ⟨i, hi⟩ := mem_at hx
    obtain ⟨y, n, hy, _, _, _, e⟩ := tr_at hT p (hX i x hi)
    have := p.pos y (List.mem_of_getElem? hy)
    omega
theorem tr_back {g : Mv} (hT : ∀ x n, TrG x n (g x n)) {L X : List R3} {ns : List Int} (p : PG L ns) (hl : X.length = L.length) (hX : ∀ (i : Nat) (x : R3), X[i]? = some x → RMv g L ns i x 0) {i : Nat} {y : R3} {er : Int} (r : RMv g X (negs ns) i y er) : er = 0 ∧ L[i]? = some y := by
  have q := tr_pg hT p hl hX
  obtain ⟨x, m, hx, hm, rfl, rfl⟩ := r
  have G := q.good hx hm
  obtain ⟨z, n, hz, hn, e, _⟩ := tr_at hT p (hX i x hx)
  obtain ⟨n', hn', rfl⟩ := negs_at hm
  rw [hn] at hn'; cases hn'
  have t := hT x (-n) G
  have Gz := p.good hz hn
  have b := chk_bounds Gz.1
  subst e
  rw [if_neg (by simp only; omega)] at t
  rw [t]
  refine ⟨rfl, ?_⟩
  rw [hz]
  simp only [Option.some.injEq]
  refine Prod.ext (by simp only; omega) (Prod.ext (by simp only; omega) rfl)
theorem tr_prod {g : Mv} (hT : ∀ x n, TrG x n (g x n)) {L X : List R3} {ns : List Int} (p : PG L ns) (hl : X.length = L.length) (hX : ∀ (i : Nat) (x : R3), X[i]? = some x → RMv g L ns i x 0) : prodL X = prodL L := by
  have z : ∀ (i : Nat) (x y : R3), X[i]? = some x → L[i]? = some y → siz x.1 x.2.1 x.2.2 = siz y.1 y.2.1 y.2.2 := fun i x y hx hy => by
    obtain ⟨y', _, hy', _, _, _, e⟩ := tr_at hT p (hX i x hx)
    rw [hy] at hy'; cases hy'; exact e
  rcases p.rk with r | r
  · match L, X, r, hl with
    | [a], [b], _, _ => simp only [prodL]; exact z 0 b a rfl rfl
  · match L, X, r, hl with
    | [a, b], [c, d], _, _ => simp only [prodL]; rw [z 0 c a rfl rfl, z 1 d b rfl rfl]
theorem nthN_tr {l h s n k : Int} (hk : chk l h s = 0) (hc : chk (l + n) (h + n) s = 0) (z : siz (l + n) (h + n) s = siz l h s) (k0 : 0 ≤ k) (k1 : k < siz l h s) : nthN (l + n) (h + n) s k = nthN l h s k + n := by
  unfold nthN nthE
  rw [if_pos hk, if_pos hc]
  have c : (if 0 ≤ k ∧ k < siz l h s then (0 : Int) else 4) = 0 := if_pos ⟨k0, k1⟩
  rw [z, if_pos c, if_pos c]
  split <;> omega
theorem tr_idx {g : Mv} (hT : ∀ x n, TrG x n (g x n)) {L X : List R3} {ns : List Int} (p : PG L ns) (hl : X.length = L.length) (hX : ∀ (i : Nat) (x : R3), X[i]? = some x → RMv g L ns i x 0) {k : Int} (k0 : 0 ≤ k) (k1 : k < prodL L)
    {i : Nat} {a n : Int} (ha : (idxL L k)[i]? = some a) (hn : ns[i]? = some n) : (idxL X k)[i]? = some (a + n) := by
  have pr := tr_prod hT p hl hX
  have q := tr_pg hT p hl hX
  have at_ : ∀ (j : Nat) (x : R3), X[j]? = some x → ∃ (y : R3) (m : Int), L[j]? = some y ∧ ns[j]? = some m ∧ x = (y.1 + m, y.2.1 + m, y.2.2) ∧ siz x.1 x.2.1 x.2.2 = siz y.1 y.2.1 y.2.2 ∧ ∀ k, 0 ≤ k → k < siz y.1 y.2.1 y.2.2 → nthN x.1 x.2.1 x.2.2 k = nthN y.1 y.2.1 y.2.2 k + m := by
    intro j x hx
    obtain ⟨y, m, hy, hm, e, c, z⟩ := tr_at hT p (hX j x hx)
    refine ⟨y, m, hy, hm, e, z, fun k a b => ?_⟩
    subst e
    exact nthN_tr (p.up y (List.mem_of_getElem? hy)).1 c.1 z a b
  rcases p.rk with r | r
  · obtain ⟨x, hx⟩ : ∃ x, X[0]? = some x := ⟨X[0]'(by omega), List.getElem?_eq_getElem _⟩
    obtain ⟨y, m, hy, hm, e, z, nn⟩ := at_ 0 x hx
    rw [idxL_one' r hy k0 k1] at ha
    rw [idxL_one' (by omega) hx k0 (by omega)]
    match i, ha with
    | 0, ha =>
      simp at ha; subst ha
      rw [hm] at hn; cases hn
      have e1 : prodL L = siz y.1 y.2.1 y.2.2 := by
        match L, r, hy with
        | [b], _, hy => simp at hy; subst hy; rfl
      simp [nn k k0 (by omega)]
  · obtain ⟨x, hx⟩ : ∃ x, X[0]? = some x := ⟨X[0]'(by omega), List.getElem?_eq_getElem _⟩
    obtain ⟨x', hx'⟩ : ∃ x, X[1]? = some x := ⟨X[1]'(by omega), List.getElem?_eq_getElem _⟩
    obtain ⟨y, m, hy, hm, e, z, nn⟩ := at_ 0 x hx
    obtain ⟨y', m', hy', hm', e', z', nn'⟩ := at_ 1 x' hx'
    have p1 := p.pos y' (List.mem_of_getElem? hy')
    have p2 := q.pos x' (List.mem_of_getElem? hx')
    rw [idxL_two' r hy hy' k0 k1 p1] at ha
    rw [idxL_two' (by omega) hx hx' k0 (by omega) p2, z']
    have e1 : prodL L = siz y.1 y.2.1 y.2.2 * siz y'.1 y'.2.1 y'.2.2 := by
      match L, r, hy, hy' with
      | [b, c], _, hy, hy' => simp at hy hy'; subst hy hy'; rfl
    have d0 := Int.ediv_nonneg k0 (show 0 ≤ siz y'.1 y'.2.1 y'.2.2 by omega)
    have d1 : k / siz y'.1 y'.2.1 y'.2.2 < siz y.1 y.2.1 y.2.2 := Int.ediv_lt_of_lt_mul (by omega) (by omega)
    have m0 := Int.emod_nonneg k (show siz y'.1 y'.2.1 y'.2.2 ≠ 0 by omega)
    have m1 := Int.emod_lt_of_pos k (show 0 < siz y'.1 y'.2.1 y'.2.2 by omega)
    match i, ha with
    | 0, ha =>
      simp at ha; subst ha
      rw [hm] at hn; cases hn
      simp [nn _ d0 d1]
    | 1, ha =>
      simp at ha; subst ha
      rw [hm'] at hn; cases hn
      simp [nn' _ m0 m1]
/-- Expand by numbers from 0 on, a dimension -/
theorem ex_at {g : Mv} (hE : ∀ x n, ExG x n (g x n)) {L : List R3} {ns : List Int} (p : PG L ns) (h0 : ∀ n ∈ ns, 0 ≤ n) {i : Nat} {x : R3} (r : RMv g L ns i x 0) :
    ∃ (y : R3) (n : Int), L[i]? = some y ∧ ns[i]? = some n ∧ x = (y.1 - n * magA y.2.2, y.2.1 + n * magA y.2.2, y.2.2) ∧ (chk x.1 x.2.1 x.2.2 = 0 ∧ ¬ x.2.2 < 0) ∧ 1 ≤ siz x.1 x.2.1 x.2.2 ∧ ∀ z, RMem y.1 y.2.1 y.2.2 z → RMem x.1 x.2.1 x.2.2 z := by
  obtain ⟨y, n, hy, hn, rfl, e⟩ := r
  have G := p.good hy hn
  have n0 := h0 n (List.mem_of_getElem? hn)
  obtain ⟨st, z1, m1, s0⟩ := steps_a G.1 G.2.1
  have p0 : 0 ≤ n * magA y.2.2 := Int.mul_nonneg n0 (by omega)
  have gle := G.2.1
  have t := hE y n G (by omega) (fun e => one_of G.1 (by omega))
  refine ⟨y, n, hy, hn, ?_⟩
  by_cases out : y.1 - n * magA y.2.2 < -1000000 ∨ 1000000 < y.2.1 + n * magA y.2.2
  · rw [if_pos out] at t; omega
  · rw [if_neg out] at t
    rw [t]
    have d : magA y.2.2 ∣ y.2.1 + n * magA y.2.2 - (y.1 - n * magA y.2.2) := by
      rw [show y.2.1 + n * magA y.2.2 - (y.1 - n * magA y.2.2) = (y.2.1 - y.1) + (n + n) * magA y.2.2 by rw [Int.add_mul]; omega]
      exact Int.dvd_add (rmem_hi G.1 G.2.1).2.2 (Int.dvd_mul_left _ _)
    have hc : chk (y.1 - n * magA y.2.2) (y.2.1 + n * magA y.2.2) y.2.2 = 0 := by
      rw [chk_ends G.1 G.2.1 _ _ (by omega) (fun e => one_of G.1 (by omega)) d, if_neg out]
    exact ⟨rfl, ⟨hc, (p.up y (List.mem_of_getElem? hy)).2⟩, by have := siz_exp _ _ _ n G.1 G.2.1 n0 hc; simp only; omega, exp_within _ _ _ n G.1 G.2.1 n0⟩
theorem ex_pg {g : Mv} (hE : ∀ x n, ExG x n (g x n)) {L X : List R3} {ns : List Int} (p : PG L ns) (h0 : ∀ n ∈ ns, 0 ≤ n) (hl : X.length = L.length) (hX : ∀ (i : Nat) (x : R3), X[i]? = some x → RMv g L ns i x 0) : PG X (negs ns) := by
  refine pg_of p hl (fun x hx => ?_) (fun x hx => ?_)
  · obtain ⟨i, hi⟩ := mem_at hx
    obtain ⟨_, _, _, _, _, h, _⟩ := ex_at hE p h0 (hX i x hi)
    exact h
  · obtain ⟨i, hi⟩ := mem_at hx
    obtain ⟨y, n, hy, _, _, _, e, _⟩ := ex_at hE p h0 (hX i x hi)
    exact e
theorem ex_subs {g : Mv} (hE : ∀ x n, ExG x n (g x n)) {L X : List R3} {ns : List Int} (p : PG L ns) (h0 : ∀ n ∈ ns, 0 ≤ n) (hX : ∀ (i : Nat) (x : R3), X[i]? = some x → RMv g L ns i x 0) : Subs L X := fun i y x hy hx z hz => by
  obtain ⟨y', _, hy', _, _, _, _, h⟩ := ex_at hE p h0 (hX i x hx)
  rw [hy] at hy'; cases hy'
  exact h z hz
theorem ex_back {g : Mv} (hE : ∀ x n, ExG x n (g x n)) {L X : List R3} {ns : List Int} (p : PG L ns) (h0 : ∀ n ∈ ns, 0 ≤ n) (hl : X.length = L.length) (hX : ∀ (i : Nat) (x : R3), X[i]? = some x → RMv g L ns i x 0) {i : Nat} {y : R3} {er : Int} (r : RMv g X (negs ns) i y er) : er = 0 ∧ L[i]? = some y := by
  have q := ex_pg hE p h0 hl hX
  obtain ⟨x, m, hx, hm, rfl, rfl⟩ := r
  have G := q.good hx hm
  obtain ⟨z, n, hz, hn, e, _⟩ := ex_at hE p h0 (hX i x hx)
  obtain ⟨n', hn', rfl⟩ := negs_at hm
  rw [hn] at hn'; cases hn'
  have Gz := p.good hz hn
  have b := chk_bounds Gz.1
  have t := hE x (-n) G
  subst e
  simp only at t
  have e1 : z.1 - n * magA z.2.2 - -n * magA z.2.2 = z.1 := by rw [Int.neg_mul]; omega
  have e2 : z.2.1 + n * magA z.2.2 + -n * magA z.2.2 = z.2.1 := by rw [Int.neg_mul]; omega
  rw [e1, e2] at t
  have t := t Gz.2.1 (one_of Gz.1)
  rw [if_neg (by omega)] at t
  rw [t]
  exact ⟨rfl, hz⟩
/-- Interior and Exterior, a dimension -/
theorem in_at {g : Mv} (hI : ∀ x n, InG x n (g x n)) {L : List R3} {ns : List Int} (p : PG L ns) {i : Nat} {x : R3} (r : RMv (uz g) L ns i x 0) :
    ∃ y : R3, L[i]? = some y ∧ (chk x.1 x.2.1 x.2.2 = 0 ∧ ¬ x.2.2 < 0) ∧ ∀ z, RMem x.1 x.2.1 x.2.2 z → RMem y.1 y.2.1 y.2.2 z := by
  obtain ⟨y, n, hy, hn, rfl, e⟩ := r
  have G := p.good hy hn
  have u := p.up y (List.mem_of_getElem? hy)
  refine ⟨y, hy, ?_⟩
  by_cases c : n = 0
  · have : uz g y n = (y, 0) := by unfold uz; rw [if_pos c]
    rw [this]
    exact ⟨u, fun z hz => hz⟩
  · have : uz g y n = g y n := by unfold uz; rw [if_neg c]
    rw [this] at e ⊢
    obtain ⟨a, b, d⟩ := hI y n G c e.symm
    exact ⟨⟨a, b u.2⟩, d⟩
theorem xt_at {g : Mv} (hX : ∀ x n, XtG x n (g x n)) {L : List R3} {ns : List Int} (p : PG L ns) {i : Nat} {x : R3} (r : RMv (uz g) L ns i x 0) :
    ∃ (y : R3) (n : Int), L[i]? = some y ∧ ns[i]? = some n ∧ (chk x.1 x.2.1 x.2.2 = 0 ∧ ¬ x.2.2 < 0) ∧ (¬ n = 0 → ∀ z, ¬ (RMem x.1 x.2.1 x.2.2 z ∧ RMem y.1 y.2.1 y.2.2 z)) := by
  obtain ⟨y, n, hy, hn, rfl, e⟩ := r
  have G := p.good hy hn
  have u := p.up y (List.mem_of_getElem? hy)
  refine ⟨y, n, hy, hn, ?_⟩
  by_cases c : n = 0
  · have : uz g y n = (y, 0) := by unfold uz; rw [if_pos c]
    rw [this]
    exact ⟨u, fun h => absurd c h⟩
  · have : uz g y n = g y n := by unfold uz; rw [if_neg c]
    rw [this] at e ⊢
    obtain ⟨a, b, d⟩ := hX y n G c e.symm
    exact ⟨⟨a, b u.2⟩, fun _ => d⟩
theorem xt_empty {g : Mv} (hG : ∀ x n, XtG x n (g x n)) {L X C : List R3} {ns : List Int} (p : PG L ns) (hl : X.length = L.length) (hX : ∀ (i : Nat) (x : R3), X[i]? = some x → RMv (uz g) L ns i x 0) (hn : ∃ n ∈ ns, ¬ n = 0) (hm : Meets X L C) : prodL C = 0 := by
  obtain ⟨n, hn, n0⟩ := hn
  obtain ⟨i, hi, e⟩ := List.getElem_of_mem hn
  have hn' : ns[i]? = some n := by rw [← e]; exact List.getElem?_eq_getElem hi
  have hl2 := p.len
  obtain ⟨c, hc⟩ : ∃ c, C[i]? = some c := ⟨C[i]'(by have := hm.1; omega), List.getElem?_eq_getElem _⟩
  obtain ⟨A, B, hA, hB, f⟩ := hm.2 i c hc
  obtain ⟨y, n', hy, hn2, _, d⟩ := xt_at hG p (hX i A hA)
  rw [hn'] at hn2; cases hn2
  rw [hB] at hy; cases hy
  refine (prod_zero (by have := p.rk; have := hm.1; omega)).2 ⟨i, c, hc, (siz_mem f.1).2 fun z hz => ?_⟩
  exact d n0 z ((f.2.1 z).1 hz)
end Go.Proofs.Ytabgphlpdoockaa
namespace Go.Proofs.Ytabgphlpdoockaa
open Go.RowKit
/-- the boxes of three domains that the call itself made -/
structure D3 (w : World) (v1 : Value) (k1 s1 h1 : Int) (v2 : Value) (k2 s2 h2 : Int) (v3 : Value) (k3 s3 h3 : Int) (wx : World) : Prop where
  below : Below w.heap.size w wx
  a : Blk w.heap.size v1 (.int .i64 k1) (.int .i64 s1) (.int .i64 h1) wx
  b : Blk (w.heap.size + 1) v2 (.int .i64 k2) (.int .i64 s2) (.int .i64 h2) wx
  c : Blk (w.heap.size + 1 + 1) v3 (.int .i64 k3) (.int .i64 s3) (.int .i64 h3) wx
theorem D3.keep {w : World} {v1 : Value} {k1 s1 h1 : Int} {v2 : Value} {k2 s2 h2 : Int} {v3 : Value} {k3 s3 h3 : Int} {wx wy : World} (t : D3 w v1 k1 s1 h1 v2 k2 s2 h2 v3 k3 s3 h3 wx) (hb : Below wx.heap.size wx wy) : D3 w v1 k1 s1 h1 v2 k2 s2 h2 v3 k3 s3 h3 wy :=
  ⟨t.below.trans (hb.mono t.below.size), t.a.keep hb, t.b.keep hb, t.c.keep hb⟩
theorem D3.new (w : World) (v1 : Value) (k1 s1 h1 : Int) (v2 : Value) (k2 s2 h2 : Int) (v3 : Value) (k3 s3 h3 : Int) :
    D3 w v1 k1 s1 h1 v2 k2 s2 h2 v3 k3 s3 h3 (((w.alloc (.cells #[v1, .int .i64 k1, .int .i64 s1, .int .i64 h1] 62)).alloc (.cells #[v2, .int .i64 k2, .int .i64 s2, .int .i64 h2] 62)).alloc (.cells #[v3, .int .i64 k3, .int .i64 s3, .int .i64 h3] 62)) := by
  have n1 := below_new w (.cells #[v1, .int .i64 k1, .int .i64 s1, .int .i64 h1] 62)
  have n2 := below_new (w.alloc (.cells #[v1, .int .i64 k1, .int .i64 s1, .int .i64 h1] 62)) (.cells #[v2, .int .i64 k2, .int .i64 s2, .int .i64 h2] 62)
  have n3 := below_new ((w.alloc (.cells #[v1, .int .i64 k1, .int .i64 s1, .int .i64 h1] 62)).alloc (.cells #[v2, .int .i64 k2, .int .i64 s2, .int .i64 h2] 62)) (.cells #[v3, .int .i64 k3, .int .i64 s3, .int .i64 h3] 62)
  have z1 : (w.alloc (.cells #[v1, .int .i64 k1, .int .i64 s1, .int .i64 h1] 62)).heap.size = w.heap.size + 1 := by simp
  have z2 : ((w.alloc (.cells #[v1, .int .i64 k1, .int .i64 s1, .int .i64 h1] 62)).alloc (.cells #[v2, .int .i64 k2, .int .i64 s2, .int .i64 h2] 62)).heap.size = w.heap.size + 1 + 1 := by simp
  refine ⟨(n1.trans (n2.mono (by omega))).trans (n3.mono (by omega)), ((Blk.new _ _ _ _ _ w).keep n2).keep n3, ?_, ?_⟩
  · have := (Blk.new v2 (.int .i64 k2) (.int .i64 s2) (.int .i64 h2) 62 (w.alloc (.cells #[v1, .int .i64 k1, .int .i64 s1, .int .i64 h1] 62))).keep n3
    rw [z1] at this
    exact this
  · have := Blk.new v3 (.int .i64 k3) (.int .i64 s3) (.int .i64 h3) 62 ((w.alloc (.cells #[v1, .int .i64 k1, .int .i64 s1, .int .i64 h1] 62)).alloc (.cells #[v2, .int .i64 k2, .int .i64 s2, .int .i64 h2] 62))
    rw [z2] at this
    exact this
theorem up_of {L : List R3} {k s h : Int} (hd : dchk L k s h = 0) : Up L := by
  unfold dchk at hd
  by_cases r : rankB L.length = true
  · rw [if_pos r] at hd
    by_cases e : dimsE L = 0
    · exact dimsE_zero e
    · rw [if_neg e] at hd; exact absurd hd e
  · rw [if_neg r] at hd; omega
theorem both_of {L M : List R3} {k s h k' s' h' : Int} (h1 : dchk L k s h = 0) (h2 : dchk M k' s' h' = 0) (hl : L.length = M.length) : dboth L k s h M k' s' h' = 0 := by
  unfold dboth
  rw [if_pos h1, if_pos h2, if_pos hl]
theorem win_ret {L M : List R3} {k s h k' s' h' er : Int} {b : Bool} (h1 : dchk L k s h = 0) (h2 : dchk M k' s' h' = 0) (hl : L.length = M.length)
    (q : Hid ((¬ dboth L k s h M k' s' h' = 0 ∧ er = dboth L k s h M k' s' h' ∧ b = false) ∨ (dboth L k s h M k' s' h' = 0 ∧ er = 0 ∧ ∃ C, Meets L M C ∧ b = (prodL C == prodL L)))) : er = 0 ∧ Hid (b = true ↔ Win L M) := by
  rcases q.out with ⟨n, _⟩ | ⟨_, e, C, hm, rfl⟩
  · exact absurd (both_of h1 h2 hl) n
  · refine ⟨e, Lib.hid ?_⟩
    have := win_iff (up_of h1) (up_of h2) (dchk_rank h1) hl hm
    unfold Win
    rw [← this]
    simp
end Go.Proofs.Ytabgphlpdoockaa
namespace Go.Proofs.Ytabgphlpdoockaa
open Go.RowKit
/-- a box with a domain in it -/
structure DB (g : Nat) (v : Value) (X : List R3) (k s h : Int) (w : World) : Prop where
  b : Blk g v (.int .i64 k) (.int .i64 s) (.int .i64 h) w
  r : Rd w v X
theorem DB.keep {g : Nat} {v : Value} {X : List R3} {k s h : Int} {w w' : World} (t : DB g v X k s h w) (hb : Below w.heap.size w w') : DB g v X k s h w' := ⟨t.b.keep hb, t.r.keep hb⟩
/-- the law's blocks -/
structure PSt (w : World) (v : Value) (k s h : Int) (iv : Value) (ns : List Int) (wr : World) : Prop where
  below : Below w.heap.size w wr
  d : Blk w.heap.size v (.int .i64 k) (.int .i64 s) (.int .i64 h) wr
  n : Ri wr iv ns
theorem PSt.keep {w : World} {v : Value} {k s h : Int} {iv : Value} {ns : List Int} {wa wb : World} (t : PSt w v k s h iv ns wa) (hb : Below wa.heap.size wa wb) : PSt w v k s h iv ns wb :=
  ⟨t.below.trans (hb.mono t.below.size), t.d.keep hb, t.n.keep hb⟩
theorem mv_pg {g : Mv} {L : List R3} {k s h : Int} {ns : List Int} {B : Nat} {v : Value} {k' s' h' er : Int} {w : World} (p : DMvP (RMv g L ns) L k s h ns B v k' s' h' er w) (c : dchk L k s h = 0) (l : ns.length = L.length) :
    ∃ X : List R3, Rd w v X ∧ Hid (er = 0 → k' = k ∧ s' = s ∧ h' = h ∧ X.length = L.length ∧ ∀ (i : Nat) (x : R3), X[i]? = some x → RMv g L ns i x 0) := by
  rcases mv_cases p c l with ⟨e, e1, e2, e3, X, a, b, own⟩ | ⟨ne, _, _, _, rfl, _⟩
  · exact ⟨X, Rd.of_own own, Lib.hid fun _ => ⟨e1, e2, e3, a, b⟩⟩
  · exact ⟨[], ⟨none, 0, rfl, Or.inl rfl⟩, Lib.hid fun h => absurd h ne⟩
theorem ex_ret {g : Mv} (hE : ∀ x n, ExG x n (g x n)) {L X : List R3} {ns : List Int} (p : PG L ns) (h0 : ∀ n ∈ ns, 0 ≤ n) (hl : X.length = L.length) (hX : ∀ (i : Nat) (x : R3), X[i]? = some x → RMv g L ns i x 0) {k s h : Int} {B : Nat} {v : Value} {k' s' h' er : Int} {w : World}
    (q : DMvP (RMv g X (negs ns)) X k s h (negs ns) B v k' s' h' er w) (c : dchk X k s h = 0) : er = 0 ∧ k' = k ∧ s' = s ∧ h' = h ∧ w.ownsRow B 23 3 v L.length (cells3 L) := by
  rcases mv_cases q c (by rw [negs_len, p.len, hl]) with ⟨e, e1, e2, e3, Y, a, b, own⟩ | ⟨ne, _, _, _, _, j, x, _, r⟩
  · have : Y = L := eq_of_at (by omega) (fun i y hy => (ex_back hE p h0 hl hX (b i y hy)).2)
    subst this
    exact ⟨e, e1, e2, e3, own⟩
  · exact absurd (ex_back hE p h0 hl hX r).1 ne
theorem tr_ret {g : Mv} (hT : ∀ x n, TrG x n (g x n)) {L X : List R3} {ns : List Int} (p : PG L ns) (hl : X.length = L.length) (hX : ∀ (i : Nat) (x : R3), X[i]? = some x → RMv g L ns i x 0) {k s h : Int} {B : Nat} {v : Value} {k' s' h' er : Int} {w : World}
    (q : DMvP (RMv g X (negs ns)) X k s h (negs ns) B v k' s' h' er w) (c : dchk X k s h = 0) : er = 0 ∧ k' = k ∧ s' = s ∧ h' = h ∧ w.ownsRow B 23 3 v L.length (cells3 L) := by
  rcases mv_cases q c (by rw [negs_len, p.len, hl]) with ⟨e, e1, e2, e3, Y, a, b, own⟩ | ⟨ne, _, _, _, _, j, x, _, r⟩
  · have : Y = L := eq_of_at (by omega) (fun i y hy => (tr_back hT p hl hX (b i y hy)).2)
    subst this
    exact ⟨e, e1, e2, e3, own⟩
  · exact absurd (tr_back hT p hl hX r).1 ne
theorem in_facts {g : Mv} (hI : ∀ x n, InG x n (g x n)) {L X : List R3} {ns : List Int} (p : PG L ns) (hX : ∀ (i : Nat) (x : R3), X[i]? = some x → RMv (uz g) L ns i x 0) : Up X ∧ Subs X L := by
  refine ⟨fun x hx => ?_, fun i x y hx hy z hz => ?_⟩
  · obtain ⟨i, hi⟩ := mem_at hx
    obtain ⟨_, _, h, _⟩ := in_at hI p (hX i x hi)
    exact h
  · obtain ⟨y', hy', _, h⟩ := in_at hI p (hX i x hx)
    rw [hy] at hy'; cases hy'
    exact h z hz
theorem xt_up {g : Mv} (hG : ∀ x n, XtG x n (g x n)) {L X : List R3} {ns : List Int} (p : PG L ns) (hX : ∀ (i : Nat) (x : R3), X[i]? = some x → RMv (uz g) L ns i x 0) : Up X := fun x hx => by
  obtain ⟨i, hi⟩ := mem_at hx
  obtain ⟨_, _, _, _, h, _⟩ := xt_at hG p (hX i x hi)
  exact h
theorem win_true {L M : List R3} {k s h k' s' h' er : Int} {b : Bool} (h1 : dchk L k s h = 0) (h2 : dchk M k' s' h' = 0) (hl : L.length = M.length) (hs : Subs L M)
    (q : Hid ((¬ dboth L k s h M k' s' h' = 0 ∧ er = dboth L k s h M k' s' h' ∧ b = false) ∨ (dboth L k s h M k' s' h' = 0 ∧ er = 0 ∧ ∃ C, Meets L M C ∧ b = (prodL C == prodL L)))) : er = 0 ∧ b = true := by
  obtain ⟨e, w⟩ := win_ret h1 h2 hl q
  exact ⟨e, w.out.2 (Or.inr hs)⟩
theorem same_true {L : List R3} {k s h : Int} (c : dchk L k s h = 0) : dsame L k s h L k s h = true := by
  unfold dsame
  rw [both_of c c rfl]
  simp
/-- the first numbers of two -/
theorem two_at2 {w : World} {a b : Int} {t : TypeId} {n : Nat} (hn : n = 1 ∨ n = 2) : Ri (w.alloc (.cells #[.int .i64 a, .int .i64 b] t)) (.slice (some ⟨w.heap.size, 0, none⟩) n 2) ([a, b].take n) := by
  have hl : ([a, b].take n).length = n := by rcases hn with rfl | rfl <;> rfl
  refine ⟨some ⟨w.heap.size, 0, none⟩, 2, by rw [hl], Or.inr ⟨w.heap.size, 0, rfl, by simp, fun j x hx => ?_⟩⟩
  have hj : j < n := by have := (List.getElem?_eq_some_iff.1 hx).1; omega
  rw [List.getElem?_take_of_lt hj] at hx
  match j, hx with
  | 0, hx => simp at hx; subst hx; simp [go_sem]
  | 1, hx => simp at hx; subst hx; simp [go_sem]
theorem tmod_bd (a : Int) : -20 ≤ a.tmod 21 ∧ a.tmod 21 ≤ 20 := by
  have h1 := Int.tmod_lt_of_pos a (show (0 : Int) < 21 by omega)
  have h2 := Int.lt_tmod_of_pos a (show (0 : Int) < 21 by omega)
  omega
end Go.Proofs.Ytabgphlpdoockaa
