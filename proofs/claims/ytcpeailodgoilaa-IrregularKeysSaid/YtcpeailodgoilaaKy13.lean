/-
  Part 13: IrQ.
-/
import Derived.Test.YtcpeailodgoilaaKy10
import Derived.Test.YtcpeailodgoilaaKy12
import Derived.BigQuiet
import Derived.Deep.CutBlock
import Derived.Deep.DeepCutAuto
import Derived.Deep.DrawnRows
import Derived.Deep.LoopGhost
import Derived.Deep.QuietTactic
import Derived.Deep.RegionHeld3
import Derived.Deep.RegionWith
import Derived.Laws.Cover3
import Derived.Lib.Hide
import Derived.OwnWalk
import Derived.WalkKit
import Derived.WalkLawsBesides
import Derived.WalkSpells
namespace Go.Proofs.Ytcpeailodgoilaa
open Go.RowKit
set_option maxRecDepth 100000 in
set_option maxHeartbeats 3200000 in
theorem equalRi_some (b1 o1 b2 o2 c1 c2 : Nat) (xs : List Int) (w : World) (z1 : b1 < w.heap.size) (z2 : b2 < w.heap.size)
    (h1 : Hid (∀ (j : Nat) (x : Int), xs[j]? = some x → w.cell? ⟨b1, o1 + j, none⟩ = some (.int .i64 x))) (h2 : Hid (∀ (j : Nat) (x : Int), xs[j]? = some x → w.cell? ⟨b2, o2 + j, none⟩ = some (.int .i64 x))) (hn : xs.length ≤ 5000) :
    Calls Try.prog 57 #[.slice (some ⟨b1, o1, none⟩) xs.length c1, .slice (some ⟨b2, o2, none⟩) xs.length c2] w fun e w' => e = .returned (.bool true) ∧ Below w.heap.size w w' := by
  go_enter Try.func57, Try.ntmps57
  go_wp2_with fail
  go_loopg [5, 13] (xs.length + 1) (fun gh _ v13 wr => ∃ k : Nat, v13 = .int .i64 k ∧ (k ≤ xs.length ∧ xs.length - k < gh) ∧ Below w.heap.size w wr)
  case atStart => exact ⟨0, rfl, ⟨by omega, by omega⟩, Below.refl _ _⟩
  case round =>
    obtain ⟨k, rfl, ⟨k0, kg⟩, hb⟩ := hrel
    have KG := Lib.hid kg
    clear kg
    have HB := Lib.hid hb
    clear hb
    by_cases hk : k < xs.length
    · obtain ⟨x, hx⟩ : ∃ x, xs[k]? = some x := ⟨xs[k], List.getElem?_eq_getElem hk⟩
      have p0 : wr.cell? ⟨b1, o1 + k, none⟩ = some (.int .i64 x) := (HB.out.cell (p := ⟨b1, o1 + k, none⟩) z1).trans (h1.out k x hx)
      have q0 : wr.cell? ⟨b2, o2 + k, none⟩ = some (.int .i64 x) := (HB.out.cell (p := ⟨b2, o2 + k, none⟩) z2).trans (h2.out k x hx)
      clear hx
      go_wp2_with fail
      go_quiet (fail)
      go_wp2
      go_roundg (xs.length - k)
      case measure => exact KG.out
      case rel => exact ⟨k + 1, by go_num, ⟨by omega, by omega⟩, HB.out.trans (below_drewN (Below.refl _ _) _)⟩
    · go_wp2
      exact bodyPost_ret (v := .bool true) (by simp [results, Try.results57, go_sem, *]) rfl ⟨rfl, HB.out⟩
theorem equalRi_any (v1 v2 : Value) (xs : List Int) (w : World) (h1 : Ri w v1 xs) (h2 : Ri w v2 xs) (hn : xs.length ≤ 5000) :
    Calls Try.prog 57 #[v1, v2] w fun e w' => e = .returned (.bool true) ∧ Below w.heap.size w w' := by
  obtain ⟨a1, c1, rfl, q1⟩ := h1
  obtain ⟨a2, c2, rfl, q2⟩ := h2
  by_cases h0 : xs.length = 0
  · rw [h0]
    exact equalI_none a1 a2 c1 c2 w
  · obtain ⟨b1, o1, rfl, z1, r1⟩ := q1.resolve_left h0
    obtain ⟨b2, o2, rfl, z2, r2⟩ := q2.resolve_left h0
    exact equalRi_some b1 o1 b2 o2 c1 c2 xs w z1 z2 (Lib.hid r1) (Lib.hid r2) hn
theorem Ri.of_own {w : World} {base : Nat} {v : Value} {L : List Int} (h : w.ownsRow base 3 1 v L.length (L.map (Value.int .i64))) : Ri w v L := by
  obtain ⟨ao, cap, rfl⟩ := owns_slice h
  refine ⟨ao, cap, rfl, ?_⟩
  by_cases z : L.length = 0
  · exact Or.inl z
  · obtain ⟨g, rfl⟩ := owns_addr h z
    refine Or.inr ⟨g, 0, rfl, (h.lt g rfl).2, fun j x hx => ?_⟩
    have hj : j < L.length := (List.getElem?_eq_some_iff.1 hx).1
    rw [Nat.zero_add]
    exact (h.cellAt j (by omega)).trans (by simp [hx])
theorem at3_six {w : World} {g : Nat} {t : TypeId} (h : w.heap[g]? = some (.cells #[.int .i64 0, .int .i64 2, .int .i64 1, .int .i64 0, .int .i64 3, .int .i64 1] t (0, 0))) : At3 w g 0 [((0, 2, 1) : R3), ((0, 3, 1) : R3)] := by
  intro j z hz
  have c : ∀ i v, #[.int .i64 0, .int .i64 2, .int .i64 1, .int .i64 0, .int .i64 3, .int .i64 1][i]? = some v → w.cell? ⟨g, i, none⟩ = some v := fun i v e => by simpa [World.cell?, h] using e
  match j, hz with
  | 0, hz => cases hz; exact ⟨c 0 _ rfl, c 1 _ rfl, c 2 _ rfl⟩
  | 1, hz => cases hz; exact ⟨c 3 _ rfl, c 4 _ rfl, c 5 _ rfl⟩
  | j + 2, hz => simp at hz
theorem ex_cp : cpE [((0, 2, 1) : R3), ((0, 3, 1) : R3)] 0 0 0 = 0 := by decide
theorem ex_chk : schkE [((0, 2, 1) : R3), ((0, 3, 1) : R3)] 0 0 0 [0, 3, 9] = 0 := by decide
theorem ex_rows : dsiz [((0, 2, 1) : R3)] 0 0 0 = (3 : Nat) := by decide
theorem ex_cols : dsiz [((0, 3, 1) : R3)] 0 0 0 = 4 := by decide
theorem ex_in : ∀ p ∈ [((2 : Int), (1 : Int)), (0, 3), (0, 0)], dposB [((0, 2, 1) : R3), ((0, 3, 1) : R3)] 0 0 0 [p.1, p.2] = true := by decide
theorem ex_K : ofK [((2 : Int), (1 : Int)), (0, 3), (0, 0)] = [((2 : Int), (1 : Int)), (0, 3), (0, 0)] := by decide
theorem ex_at : ([((2 : Int), (1 : Int)), (0, 3), (0, 0)] : List (Int × Int)).map (fun p => dposN [((0, 2, 1) : R3), ((0, 3, 1) : R3)] 0 0 0 [p.1, p.2]) = [9, 3, 0] := by decide
theorem ex_srt : srt [9, 3, 0] = [0, 3, 9] := List.Perm.eq_of_pairwise (le := (· ≤ ·)) (fun a b _ _ h1 h2 => by omega) (srt_asc _) (by simp) ((List.mergeSort_perm _ _).trans (by decide))
theorem ex_st : rowsSt 4 [0, 3, 9] 3 = ([0, 2, 2], [0, 3, 1]) := by decide
theorem ex_64 : ∀ p ∈ [((2 : Int), (1 : Int)), (0, 3), (0, 0)], P64 p := by simp [P64, I64]
theorem ex_ok : Ok3 [((0, 2, 1) : R3), ((0, 3, 1) : R3)] := by simp [Ok3, I64]
theorem ri_pair {U : World} {g : Nat} {a b : Int} {t : TypeId} (h : U.heap[g]? = some (.cells #[.int .i64 a, .int .i64 b] t (0, 0))) : Ri U (.slice (some ⟨g, 0, none⟩) 2 2) [a, b] := by
  refine ⟨_, 2, rfl, Or.inr ⟨g, 0, rfl, (Array.getElem?_eq_some_iff.1 h).1, fun j x hx => ?_⟩⟩
  match j, hx with
  | 0, hx => cases hx; simp [World.cell?, h]
  | 1, hx => cases hx; simp [World.cell?, h]
  | j + 2, hx => simp at hx
theorem ri_new (xs : List Int) (w : World) (t : TypeId) : Ri (w.alloc (.cells (xs.map (Value.int .i64)).toArray t)) (.slice (some ⟨w.heap.size, 0, none⟩) xs.length xs.length) xs := by
  refine ⟨_, xs.length, rfl, Or.inr ⟨_, 0, rfl, by simp, fun j x hx => ?_⟩⟩
  have h := World.alloc_heap_new w (.cells (xs.map (Value.int .i64)).toArray t)
  simp only [World.cell?, h, Nat.zero_add]
  simp [hx]
theorem three_new (u : World) (a b c d e f : Int) : ∀ (j : Nat) (p : Int × Int), [(a, b), (c, d), (e, f)][j]? = some p → ∃ iv, ((((u.alloc (.cells #[.int .i64 a, .int .i64 b] 3)).alloc (.cells #[.int .i64 c, .int .i64 d] 3)).alloc (.cells #[.int .i64 e, .int .i64 f] 3)).alloc (.cells #[.slice (some ⟨u.heap.size, 0, none⟩) 2 2, .slice (some ⟨u.heap.size + 1, 0, none⟩) 2 2, .slice (some ⟨u.heap.size + 1 + 1, 0, none⟩) 2 2] 48)).cell? ⟨u.heap.size + 1 + 1 + 1, 0 + j, none⟩ = some iv ∧ Ri ((((u.alloc (.cells #[.int .i64 a, .int .i64 b] 3)).alloc (.cells #[.int .i64 c, .int .i64 d] 3)).alloc (.cells #[.int .i64 e, .int .i64 f] 3)).alloc (.cells #[.slice (some ⟨u.heap.size, 0, none⟩) 2 2, .slice (some ⟨u.heap.size + 1, 0, none⟩) 2 2, .slice (some ⟨u.heap.size + 1 + 1, 0, none⟩) 2 2] 48)) iv [p.1, p.2] := by
  have ha : ((((u.alloc (.cells #[.int .i64 a, .int .i64 b] 3)).alloc (.cells #[.int .i64 c, .int .i64 d] 3)).alloc (.cells #[.int .i64 e, .int .i64 f] 3)).alloc (.cells #[.slice (some ⟨u.heap.size, 0, none⟩) 2 2, .slice (some ⟨u.heap.size + 1, 0, none⟩) 2 2, .slice (some ⟨u.heap.size + 1 + 1, 0, none⟩) 2 2] 48)).heap[u.heap.size]? = some (.cells #[.int .i64 a, .int .i64 b] 3 (0, 0)) := (Below.heap_alloc _ _ _ (by first | (simp; done) | (simp; omega))).trans ((Below.heap_alloc _ _ _ (by first | (simp; done) | (simp; omega))).trans ((Below.heap_alloc _ _ _ (by simp)).trans (World.alloc_heap_new u _)))
  have hb : ((((u.alloc (.cells #[.int .i64 a, .int .i64 b] 3)).alloc (.cells #[.int .i64 c, .int .i64 d] 3)).alloc (.cells #[.int .i64 e, .int .i64 f] 3)).alloc (.cells #[.slice (some ⟨u.heap.size, 0, none⟩) 2 2, .slice (some ⟨u.heap.size + 1, 0, none⟩) 2 2, .slice (some ⟨u.heap.size + 1 + 1, 0, none⟩) 2 2] 48)).heap[u.heap.size + 1]? = some (.cells #[.int .i64 c, .int .i64 d] 3 (0, 0)) := by
    have := World.alloc_heap_new (u.alloc (.cells #[.int .i64 a, .int .i64 b] 3)) (.cells #[.int .i64 c, .int .i64 d] 3)
    rw [World.size_alloc] at this
    exact (Below.heap_alloc _ _ _ (by first | (simp; done) | (simp; omega))).trans ((Below.heap_alloc _ _ _ (by simp)).trans this)
  have hc : ((((u.alloc (.cells #[.int .i64 a, .int .i64 b] 3)).alloc (.cells #[.int .i64 c, .int .i64 d] 3)).alloc (.cells #[.int .i64 e, .int .i64 f] 3)).alloc (.cells #[.slice (some ⟨u.heap.size, 0, none⟩) 2 2, .slice (some ⟨u.heap.size + 1, 0, none⟩) 2 2, .slice (some ⟨u.heap.size + 1 + 1, 0, none⟩) 2 2] 48)).heap[u.heap.size + 1 + 1]? = some (.cells #[.int .i64 e, .int .i64 f] 3 (0, 0)) := by
    have := World.alloc_heap_new ((u.alloc (.cells #[.int .i64 a, .int .i64 b] 3)).alloc (.cells #[.int .i64 c, .int .i64 d] 3)) (.cells #[.int .i64 e, .int .i64 f] 3)
    rw [World.size_alloc, World.size_alloc] at this
    exact (Below.heap_alloc _ _ _ (by simp)).trans this
  have hd : ((((u.alloc (.cells #[.int .i64 a, .int .i64 b] 3)).alloc (.cells #[.int .i64 c, .int .i64 d] 3)).alloc (.cells #[.int .i64 e, .int .i64 f] 3)).alloc (.cells #[.slice (some ⟨u.heap.size, 0, none⟩) 2 2, .slice (some ⟨u.heap.size + 1, 0, none⟩) 2 2, .slice (some ⟨u.heap.size + 1 + 1, 0, none⟩) 2 2] 48)).heap[u.heap.size + 1 + 1 + 1]? = some (.cells #[.slice (some ⟨u.heap.size, 0, none⟩) 2 2, .slice (some ⟨u.heap.size + 1, 0, none⟩) 2 2, .slice (some ⟨u.heap.size + 1 + 1, 0, none⟩) 2 2] 48 (0, 0)) := by
    have := World.alloc_heap_new (((u.alloc (.cells #[.int .i64 a, .int .i64 b] 3)).alloc (.cells #[.int .i64 c, .int .i64 d] 3)).alloc (.cells #[.int .i64 e, .int .i64 f] 3)) (.cells #[.slice (some ⟨u.heap.size, 0, none⟩) 2 2, .slice (some ⟨u.heap.size + 1, 0, none⟩) 2 2, .slice (some ⟨u.heap.size + 1 + 1, 0, none⟩) 2 2] 48)
    rwa [World.size_alloc, World.size_alloc, World.size_alloc] at this
  obtain ⟨c0, c1, c2⟩ := row3 hd
  intro j p hp
  match j, hp with
  | 0, hp => cases hp; exact ⟨_, c0, ri_pair ha⟩
  | 1, hp => cases hp; exact ⟨_, c1, ri_pair hb⟩
  | 2, hp => cases hp; exact ⟨_, c2, ri_pair hc⟩
  | j + 3, hp => simp at hp
/-- what awake keeps while it compares -/
structure AwF (w : World) (sb rb : Nat) (c5 c2 : Array Value) (av sv cv : Value) (u : World) : Prop where
  below : Below w.heap.size w u
  s : u.heap[sb]? = some (.cells c5 175 (0, 0))
  r : u.heap[rb]? = some (.cells c2 179 (0, 0))
  ra : Ri u av [0, 3, 9]
  rs : Ri u sv [0, 2, 2, 3]
  rc : Ri u cv [0, 3, 1]
theorem AwF.keep {w : World} {sb rb : Nat} {c5 c2 : Array Value} {av sv cv : Value} {u u' : World} (t : AwF w sb rb c5 c2 av sv cv u) (hb : Below u.heap.size u u') : AwF w sb rb c5 c2 av sv cv u' :=
  ⟨t.below.trans (hb.mono t.below.size), heap_keep t.s hb, heap_keep t.r hb, t.ra.keep hb, t.rs.keep hb, t.rc.keep hb⟩
set_option maxRecDepth 100000 in
set_option maxHeartbeats 12800000 in
theorem awake3_any (w : World) : Calls Try.prog 106 #[] w fun e w' => e = .returned (.bool true) ∧ Below w.heap.size w w' := by
  have H1 : Hid (((w.alloc (.cells #[.int .i64 0, .int .i64 2, .int .i64 1, .int .i64 0, .int .i64 3, .int .i64 1] 23)).alloc (.cells #[(.slice (some ⟨w.heap.size, 0, none⟩) 2 2), .int .i64 0, .int .i64 0, .int .i64 0] 62)).heap[w.heap.size]? = some (.cells #[.int .i64 0, .int .i64 2, .int .i64 1, .int .i64 0, .int .i64 3, .int .i64 1] 23 (0, 0))) := Lib.hid ((Below.heap_alloc _ _ _ (by simp)).trans (World.alloc_heap_new w _))
  have H2 : Hid (((w.alloc (.cells #[.int .i64 0, .int .i64 2, .int .i64 1, .int .i64 0, .int .i64 3, .int .i64 1] 23)).alloc (.cells #[(.slice (some ⟨w.heap.size, 0, none⟩) 2 2), .int .i64 0, .int .i64 0, .int .i64 0] 62)).heap[w.heap.size + 1]? = some (.cells #[(.slice (some ⟨w.heap.size, 0, none⟩) 2 2), .int .i64 0, .int .i64 0, .int .i64 0] 62 (0, 0))) := Lib.hid (by
    have := World.alloc_heap_new (w.alloc (.cells #[.int .i64 0, .int .i64 2, .int .i64 1, .int .i64 0, .int .i64 3, .int .i64 1] 23)) (.cells #[(.slice (some ⟨w.heap.size, 0, none⟩) 2 2), .int .i64 0, .int .i64 0, .int .i64 0] 62)
    rwa [World.size_alloc] at this)
  have B1 : Hid (Below w.heap.size w ((w.alloc (.cells #[.int .i64 0, .int .i64 2, .int .i64 1, .int .i64 0, .int .i64 3, .int .i64 1] 23)).alloc (.cells #[(.slice (some ⟨w.heap.size, 0, none⟩) 2 2), .int .i64 0, .int .i64 0, .int .i64 0] 62))) := Lib.hid ((below_new _ _).alloc (by simp) _)
  have S1 : Hid (w.heap.size + 2 ≤ ((w.alloc (.cells #[.int .i64 0, .int .i64 2, .int .i64 1, .int .i64 0, .int .i64 3, .int .i64 1] 23)).alloc (.cells #[(.slice (some ⟨w.heap.size, 0, none⟩) 2 2), .int .i64 0, .int .i64 0, .int .i64 0] 62)).heap.size) := Lib.hid (by simp)
  go_enter Try.func106, Try.ntmps106
  go_upto_region 2 with fail
  generalize ((w.alloc (.cells #[.int .i64 0, .int .i64 2, .int .i64 1, .int .i64 0, .int .i64 3, .int .i64 1] 23)).alloc (.cells #[(.slice (some ⟨w.heap.size, 0, none⟩) 2 2), .int .i64 0, .int .i64 0, .int .i64 0] 62)) = u1 at *
  obtain ⟨d0, d1, d2, d3⟩ := row4 H2.out
  have B2 : Hid (Below u1.heap.size u1 ((((u1.alloc (.cells #[.int .i64 2, .int .i64 1] 3)).alloc (.cells #[.int .i64 0, .int .i64 3] 3)).alloc (.cells #[.int .i64 0, .int .i64 0] 3)).alloc (.cells #[.slice (some ⟨u1.heap.size, 0, none⟩) 2 2, .slice (some ⟨u1.heap.size + 1, 0, none⟩) 2 2, .slice (some ⟨u1.heap.size + 1 + 1, 0, none⟩) 2 2] 48))) := Lib.hid ((((below_new _ _).alloc (by simp) _).alloc (by simp; omega) _).alloc (by simp; omega) _)
  have A2 : Hid (At3 ((((u1.alloc (.cells #[.int .i64 2, .int .i64 1] 3)).alloc (.cells #[.int .i64 0, .int .i64 3] 3)).alloc (.cells #[.int .i64 0, .int .i64 0] 3)).alloc (.cells #[.slice (some ⟨u1.heap.size, 0, none⟩) 2 2, .slice (some ⟨u1.heap.size + 1, 0, none⟩) 2 2, .slice (some ⟨u1.heap.size + 1 + 1, 0, none⟩) 2 2] 48)) w.heap.size 0 [((0, 2, 1) : R3), ((0, 3, 1) : R3)]) := Lib.hid ((at3_six H1.out).under B2.out (by have := S1.out; omega))
  have I2 := Lib.hid (three_new u1 2 1 0 3 0 0)
  have LT2 : Hid (w.heap.size < ((((u1.alloc (.cells #[.int .i64 2, .int .i64 1] 3)).alloc (.cells #[.int .i64 0, .int .i64 3] 3)).alloc (.cells #[.int .i64 0, .int .i64 0] 3)).alloc (.cells #[.slice (some ⟨u1.heap.size, 0, none⟩) 2 2, .slice (some ⟨u1.heap.size + 1, 0, none⟩) 2 2, .slice (some ⟨u1.heap.size + 1 + 1, 0, none⟩) 2 2] 48)).heap.size ∧ u1.heap.size + 1 + 1 + 1 < ((((u1.alloc (.cells #[.int .i64 2, .int .i64 1] 3)).alloc (.cells #[.int .i64 0, .int .i64 3] 3)).alloc (.cells #[.int .i64 0, .int .i64 0] 3)).alloc (.cells #[.slice (some ⟨u1.heap.size, 0, none⟩) 2 2, .slice (some ⟨u1.heap.size + 1, 0, none⟩) 2 2, .slice (some ⟨u1.heap.size + 1 + 1, 0, none⟩) 2 2] 48)).heap.size) := Lib.hid (by have := S1.out; simp; omega)
  go_wp2_with fail
  refine (iof_any w.heap.size 0 2 [((0, 2, 1) : R3), ((0, 3, 1) : R3)] 0 0 0 (u1.heap.size + 1 + 1 + 1) 0 3 [((2 : Int), (1 : Int)), (0, 3), (0, 0)] _ LT2.out.1 A2 ex_ok (by decide) (by decide) LT2.out.2 I2.out (by decide) ex_64 ex_cp ex_in).mono ?_
  rintro e u3 ⟨v', av, rfl, OV, OA, hq⟩
  have B3 : Hid (Below w.heap.size w u3) := Lib.hid (B1.out.trans ((B2.out.mono (by have := S1.out; omega)).trans (hq.mono (by have := LT2.out.1; omega))))
  have OA3 : Hid (Ri u3 av [0, 3, 9]) := Lib.hid (Ri.of_own (L := [0, 3, 9]) (by have q := OA.out; rw [ex_K, ex_at, ex_srt] at q; exact q))
  have OV3 := Lib.hid (Rd.of_own OV.out)
  clear hq OV OA I2 A2 B2 LT2 d0 d1 d2 d3 H1 H2 B1 S1
  obtain ⟨vo, cp, rfl, hh⟩ := OV3.out
  obtain ⟨b', o', rfl, lt', cs⟩ := hh.resolve_left (by simp)
  obtain ⟨ao, ac, rfl, hh2⟩ := OA3.out
  obtain ⟨ab, ao, rfl, lt2, cs2⟩ := hh2.resolve_left (by simp)
  have CS := Lib.hid cs
  have CS2 := Lib.hid cs2
  clear hh hh2 cs cs2 OV3
  go_upto_region 3 with fail
  have H4 : Hid ((u3.alloc (.cells #[.slice (some ⟨b', o', none⟩) 2 cp, .int .i64 0, .int .i64 0, .int .i64 0, .slice (some ⟨ab, ao, none⟩) 3 ac] 175)).heap[u3.heap.size]? = some (.cells #[.slice (some ⟨b', o', none⟩) 2 cp, .int .i64 0, .int .i64 0, .int .i64 0, .slice (some ⟨ab, ao, none⟩) 3 ac] 175 (0, 0))) := Lib.hid (World.alloc_heap_new u3 _)
  have N4 : Hid (Below u3.heap.size u3 (u3.alloc (.cells #[.slice (some ⟨b', o', none⟩) 2 cp, .int .i64 0, .int .i64 0, .int .i64 0, .slice (some ⟨ab, ao, none⟩) 3 ac] 175))) := Lib.hid (below_new _ _)
  generalize u3.alloc (.cells #[.slice (some ⟨b', o', none⟩) 2 cp, .int .i64 0, .int .i64 0, .int .i64 0, .slice (some ⟨ab, ao, none⟩) 3 ac] 175) = u4 at *
  obtain ⟨⟨d0, d1, d2, d3, d4⟩, _⟩ := row5 H4.out
  go_wp2_with fail
  refine (ibyrows_any b' o' cp ((0, 2, 1) : R3) ((0, 3, 1) : R3) 0 0 0 ab ao ac [0, 3, 9] 3 4 _ (Nat.lt_of_lt_of_le lt' N4.out.size) (Lib.hid (At3.under CS.out N4.out lt')) ex_ok (Nat.lt_of_lt_of_le lt2 N4.out.size) (fun j a ha => (N4.out.cell (p := ⟨ab, ao + j, none⟩) lt2).trans (CS2.out j a ha)) (by decide) (by decide) ex_chk ex_rows ex_cols (by decide) (by decide) (by decide)).mono ?_
  rintro e u5 ⟨sv, cv, rfl, OS, OC, hq⟩
  have RS5 : Hid (Ri u5 sv [0, 2, 2, 3]) := Lib.hid (Ri.of_own (L := [0, 2, 2, 3]) (by have q := OS.out; rw [ex_st] at q; exact q))
  have RC5 : Hid (Ri u5 cv [0, 3, 1]) := Lib.hid (Ri.of_own (L := [0, 3, 1]) (by have q := OC.out; rw [ex_st] at q; exact q))
  have RA5 := Lib.hid ((OA3.out.keep N4.out).keep hq)
  have H5 := Lib.hid (heap_keep H4.out hq)
  have B5 : Hid (Below w.heap.size w u5) := Lib.hid (B3.out.trans ((N4.out.mono B3.out.size).trans (hq.mono (Nat.le_trans B3.out.size N4.out.size))))
  clear hq OS OC H4 N4 B3 OA3 CS CS2 d0 d1 d2 d3 d4 lt' lt2
  generalize u3.heap.size = sb at *
  obtain ⟨so, sc, rfl, _⟩ := RS5.out
  obtain ⟨co, cc, rfl, _⟩ := RC5.out
  go_upto_region 4 with fail
  have T6 : Hid (AwF w sb u5.heap.size #[.slice (some ⟨b', o', none⟩) 2 cp, .int .i64 0, .int .i64 0, .int .i64 0, .slice (some ⟨ab, ao, none⟩) 3 ac] #[.slice so 4 sc, .slice co 3 cc] (.slice (some ⟨ab, ao, none⟩) 3 ac) (.slice so 4 sc) (.slice co 3 cc) (u5.alloc (.cells #[.slice so 4 sc, .slice co 3 cc] 179))) := Lib.hid
    ⟨B5.out.alloc B5.out.size _, heap_keep H5.out (below_new _ _), World.alloc_heap_new u5 _, RA5.out.keep (below_new _ _), RS5.out.keep (below_new _ _), RC5.out.keep (below_new _ _)⟩
  generalize u5.alloc (.cells #[.slice so 4 sc, .slice co 3 cc] 179) = u6 at *
  generalize u5.heap.size = rb at *
  clear B5 H5 RA5 RS5 RC5
  obtain ⟨⟨d0, d1, d2, d3, d4⟩, _⟩ := row5 T6.out.s
  have nw := Lib.hid (below_new u6 (.cells #[.int .i64 0, .int .i64 3, .int .i64 9] 3))
  go_wp2_with fail
  refine (equalRi_any _ _ [0, 3, 9] _ (T6.out.ra.keep nw.out) (ri_new [0, 3, 9] _ _) (by decide)).mono ?_
  rintro e u7 ⟨rfl, hq⟩
  have T7 := Lib.hid ((T6.out.keep nw.out).keep hq)
  clear hq nw T6 d0 d1 d2 d3 d4
  obtain ⟨⟨r0, r1⟩, _⟩ := row2 T7.out.r
  have nw := Lib.hid (below_new u7 (.cells #[.int .i64 0, .int .i64 2, .int .i64 2, .int .i64 3] 3))
  go_wp2_with fail
  refine (equalRi_any _ _ [0, 2, 2, 3] _ (T7.out.rs.keep nw.out) (ri_new [0, 2, 2, 3] _ _) (by decide)).mono ?_
  rintro e u8 ⟨rfl, hq⟩
  have T8 := Lib.hid ((T7.out.keep nw.out).keep hq)
  clear hq nw T7 r0 r1
  obtain ⟨⟨r0, r1⟩, _⟩ := row2 T8.out.r
  have nw := Lib.hid (below_new u8 (.cells #[.int .i64 0, .int .i64 3, .int .i64 1] 3))
  go_wp2_with fail
  refine (equalRi_any _ _ [0, 3, 1] _ (T8.out.rc.keep nw.out) (ri_new [0, 3, 1] _ _) (by decide)).mono ?_
  rintro e u9 ⟨rfl, hq⟩
  have T9 := Lib.hid ((T8.out.keep nw.out).keep hq)
  clear hq nw T8 r0 r1
  go_wp2
  exact bodyPost_ret (v := .bool true) (by simp [results, Try.results106, go_sem, *]) rfl ⟨rfl, T9.out.below⟩
end Go.Proofs.Ytcpeailodgoilaa
