/-
  Part 12: IrR.
-/
import Derived.Test.YtcpeailodgoilaaKy10
import Derived.Test.YtcpeailodgoilaaKy11
import Derived.BigQuiet
import Derived.Deep.AppendLies
import Derived.Deep.CutBlock
import Derived.Deep.DeepCutAuto
import Derived.Deep.DrawnRows
import Derived.Deep.LoopGhost
import Derived.Deep.QuietTactic
import Derived.Deep.RegionHeld3
import Derived.Deep.RegionWith
import Derived.Laws.Cover3
import Derived.Lib.Hide
import Derived.Maps.AppendAt
import Derived.OwnWalk
import Derived.WalkKit
import Derived.WalkLawsBesides
import Derived.WalkSpells
namespace Go.Proofs.Ytcpeailodgoilaa
open Go.RowKit
/-- the columns at the beginning of some positions that stand in a row -/
def rowsIn (c r : Int) : List Int → List Int
  | [] => []
  | a :: l => if a.tdiv c = r then a.tmod c :: rowsIn c r l else []
/-- the beginnings of rows, and the columns, of so many rows -/
def rowsSt (c : Int) (xs : List Int) : Nat → List Int × List Int
  | 0 => ([], [])
  | r + 1 => ((rowsSt c xs r).1 ++ [((rowsSt c xs r).2.length : Int)], (rowsSt c xs r).2 ++ rowsIn c r (xs.drop (rowsSt c xs r).2.length))
theorem rowsSt_len (c : Int) (xs : List Int) : ∀ r, (rowsSt c xs r).1.length = r
  | 0 => rfl
  | r + 1 => by simp [rowsSt, rowsSt_len c xs r]
theorem rowsIn_len (c r : Int) : ∀ l : List Int, (rowsIn c r l).length ≤ l.length
  | [] => by simp [rowsIn]
  | a :: l => by
    have := rowsIn_len c r l
    unfold rowsIn
    split
    · simp; omega
    · simp
theorem rowsSt_col (c : Int) (xs : List Int) : ∀ r, (rowsSt c xs r).2.length ≤ xs.length
  | 0 => by simp [rowsSt]
  | r + 1 => by
    have h := rowsSt_col c xs r
    have h2 := rowsIn_len c r (xs.drop (rowsSt c xs r).2.length)
    simp only [List.length_drop] at h2
    simp only [rowsSt, List.length_append]
    omega
/-- the blocks of ByRows's argument and of its result -/
structure RwS (w : World) (a b c d e : Value) (u : World) : Prop where
  d : u.heap[w.heap.size]? = some (.cells #[a, b, c, d, e] 175 (0, 0))
  z : u.heap[w.heap.size + 1]? = some (.cells #[.slice none 0 0, .slice none 0 0] 179 (0, 0))
  below : Below w.heap.size w u
  size : w.heap.size + 2 ≤ u.heap.size
theorem RwS.keep {w : World} {a b c d e : Value} {u u' : World} (t : RwS w a b c d e u) (hb : Below (w.heap.size + 2) u u') : RwS w a b c d e u' :=
  ⟨(hb.block _ (by omega)).trans t.d, (hb.block _ (by omega)).trans t.z, t.below.trans (hb.mono (by omega)), Nat.le_trans t.size hb.size⟩
/-- the state of the loops: the rows so far, in a block of their own -/
structure RwL (w : World) (a b c d e : Value) (rb : Nat) (sv cv : Value) (st co : List Int) (u : World) : Prop where
  s : RwS w a b c d e u
  r : u.heap[rb]? = some (.cells #[sv, cv] 179 (0, 0))
  sa : u.ownsRow (w.heap.size + 2) 3 1 sv st.length (st.map (Value.int .i64))
  ca : u.ownsRow (w.heap.size + 2) 3 1 cv co.length (co.map (Value.int .i64))
  rlo : w.heap.size + 2 ≤ rb
  nsr : sv.ownBlock ≠ some rb
  ncr : cv.ownBlock ≠ some rb
  nsc : sv.ownBlock = none ∨ sv.ownBlock ≠ cv.ownBlock
theorem RwL.keep {w : World} {a b c d e : Value} {rb : Nat} {sv cv : Value} {st co : List Int} {u u' : World} (t : RwL w a b c d e rb sv cv st co u) (hb : Below u.heap.size u u') : RwL w a b c d e rb sv cv st co u' :=
  ⟨t.s.keep (hb.mono t.s.size), heap_keep t.r hb, owns_below t.sa hb, owns_below t.ca hb, t.rlo, t.nsr, t.ncr, t.nsc⟩
theorem RwL.lt {w : World} {a b c d e : Value} {rb : Nat} {sv cv : Value} {st co : List Int} {u : World} (t : RwL w a b c d e rb sv cv st co u) : rb < u.heap.size := (Array.getElem?_eq_some_iff.1 t.r).1
theorem row2 {w : World} {g : Nat} {a b : Value} {t : TypeId} (h : w.heap[g]? = some (.cells #[a, b] t (0, 0))) : (w.cell? ⟨g, 0, none⟩ = some a ∧ w.cell? ⟨g, 1, none⟩ = some b) ∧ ∀ i, w.frozen? ⟨g, i, none⟩ = false := by
  refine ⟨⟨?_, ?_⟩, fun i => ?_⟩
  · simp [World.cell?, h]
  · simp [World.cell?, h]
  · simp [World.frozen?, h]
/-- a row that is not written keeps what it has under a store into another block -/
theorem owns_store {w : World} {base : Nat} {e : TypeId} {size : Nat} {v : Value} {n : Nat} {xs : List Value} (h : w.ownsRow base e size v n xs) {g i : Nat} (hne : v.ownBlock ≠ some g) (x : Value) : (w.setCell ⟨g, i, none⟩ x).ownsRow base e size v n xs := by
  refine ⟨h.1, ?_⟩
  rcases h.2 with hn | ⟨q, cap, cur, rfl, hq, hg, rest⟩
  · exact Or.inl hn
  · refine Or.inr ⟨q, cap, cur, rfl, hq, ?_, rest⟩
    have hqg : g ≠ q := fun e => hne (by rw [e]; rfl)
    show (w.heap.modify g _)[q]? = _
    rw [Array.getElem?_modify, if_neg hqg]
    exact hg
/-- a store into the first cell of the rows -/
theorem RwL.setS {w : World} {a b c d e : Value} {rb : Nat} {sv cv : Value} {st co : List Int} {u : World} (t : RwL w a b c d e rb sv cv st co u) {sv' : Value} {st' : List Int} {u' : World} (hb : Below (w.heap.size + 2) u u') (hr : u'.heap[rb]? = u.heap[rb]?)
    (sa : u'.ownsRow (w.heap.size + 2) 3 1 sv' st'.length (st'.map (Value.int .i64))) (ca : u'.ownsRow (w.heap.size + 2) 3 1 cv co.length (co.map (Value.int .i64))) (h1 : sv'.ownBlock ≠ some rb) (h2 : sv'.ownBlock = none ∨ sv'.ownBlock ≠ cv.ownBlock) :
    RwL w a b c d e rb sv' cv st' co (u'.setCell ⟨rb, 0, none⟩ sv') := by
  have hs := setCell_at (i := 0) (hr.trans t.r) sv'
  simp only [List.setIfInBounds_toArray, List.set_cons_zero] at hs
  exact ⟨t.s.keep (hb.setCell (p := ⟨rb, 0, none⟩) t.rlo _), hs, owns_store sa h1 _, owns_store ca t.ncr _, t.rlo, h1, t.ncr, h2⟩
/-- a store into the second one -/
theorem RwL.setC {w : World} {a b c d e : Value} {rb : Nat} {sv cv : Value} {st co : List Int} {u : World} (t : RwL w a b c d e rb sv cv st co u) {cv' : Value} {co' : List Int} {u' : World} (hb : Below (w.heap.size + 2) u u') (hr : u'.heap[rb]? = u.heap[rb]?)
    (sa : u'.ownsRow (w.heap.size + 2) 3 1 sv st.length (st.map (Value.int .i64))) (ca : u'.ownsRow (w.heap.size + 2) 3 1 cv' co'.length (co'.map (Value.int .i64))) (h1 : cv'.ownBlock ≠ some rb) (h2 : sv.ownBlock = none ∨ sv.ownBlock ≠ cv'.ownBlock) :
    RwL w a b c d e rb sv cv' st co' (u'.setCell ⟨rb, 1, none⟩ cv') := by
  have hs := setCell_at (i := 1) (hr.trans t.r) cv'
  simp only [List.setIfInBounds_toArray, List.set_cons_zero, List.set_cons_succ] at hs
  exact ⟨t.s.keep (hb.setCell (p := ⟨rb, 1, none⟩) t.rlo _), hs, owns_store sa t.nsr _, owns_store ca h1 _, t.rlo, t.nsr, h1, h2⟩
/-- what an append to the starts leaves -/
theorem RwL.growS {w : World} {a b c d e : Value} {rb : Nat} {sv cv : Value} {st co : List Int} {u : World} (t : RwL w a b c d e rb sv cv st co u) {sv' : Value} {x : Int} {u' : World} (hg : u.grownBy u' sv.ownBlock) (hat : sv'.ownBlock = sv.ownBlock ∨ sv'.ownBlock = some u.heap.size)
    (sa : u'.ownsRow (w.heap.size + 2) 3 1 sv' (st.length + 1) (st.map (Value.int .i64) ++ [.int .i64 x])) : RwL w a b c d e rb sv' cv (st ++ [x]) co (u'.setCell ⟨rb, 0, none⟩ sv') := by
  have hlt := t.lt
  refine t.setS ((Below.refl _ _).grown hg t.s.size (fun g hg => (t.sa.lt g hg).1)) (hg.block _ hlt (fun e => t.nsr e.symm)) (by simpa using sa) (t.ca.kept hg ?_) ?_ ?_
  · rcases t.nsc with h | h
    · cases hc : cv.ownBlock with
      | none => exact Or.inl rfl
      | some g => exact Or.inr (by rw [h]; simp)
    · exact Or.inr (fun e => h e.symm)
  · rcases hat with h | h
    · rw [h]; exact t.nsr
    · rw [h]; intro e; simp at e; omega
  · rcases hat with h | h
    · rw [h]; exact t.nsc
    · refine Or.inr (fun e => ?_)
      rw [h] at e
      have := (t.ca.lt _ e.symm).2
      omega
/-- what an append to the columns leaves -/
theorem RwL.growC {w : World} {a b c d e : Value} {rb : Nat} {sv cv : Value} {st co : List Int} {u : World} (t : RwL w a b c d e rb sv cv st co u) {cv' : Value} {x : Int} {u' : World} (hg : u.grownBy u' cv.ownBlock) (hat : cv'.ownBlock = cv.ownBlock ∨ cv'.ownBlock = some u.heap.size)
    (ca : u'.ownsRow (w.heap.size + 2) 3 1 cv' (co.length + 1) (co.map (Value.int .i64) ++ [.int .i64 x])) : RwL w a b c d e rb sv cv' st (co ++ [x]) (u'.setCell ⟨rb, 1, none⟩ cv') := by
  have hlt := t.lt
  refine t.setC ((Below.refl _ _).grown hg t.s.size (fun g hg => (t.ca.lt g hg).1)) (hg.block _ hlt (fun e => t.ncr e.symm)) (t.sa.kept hg ?_) (by simpa using ca) ?_ ?_
  · rcases t.nsc with h | h
    · exact Or.inl h
    · exact Or.inr h
  · rcases hat with h | h
    · rw [h]; exact t.ncr
    · rw [h]; intro e; simp at e; omega
  · rcases hat with h | h
    · rw [h]; exact t.nsc
    · refine Or.inr (fun e => ?_)
      rw [h] at e
      have := (t.sa.lt _ e).2
      omega
theorem set2_heap {w : World} {g : Nat} {a b a' b' : Value} {t : TypeId} (h : w.heap[g]? = some (.cells #[a, b] t (0, 0))) : ((w.setCell ⟨g, 0, none⟩ a').setCell ⟨g, 1, none⟩ b').heap[g]? = some (.cells #[a', b'] t (0, 0)) := by
  have h0 := setCell_at (i := 0) h a'
  have h1 := setCell_at (i := 1) h0 b'
  simp only [List.setIfInBounds_toArray, List.set_cons_zero, List.set_cons_succ] at h1
  exact h1
set_option maxRecDepth 100000 in
set_option maxHeartbeats 25600000 in
theorem ibyrows_any (b o cap : Nat) (x y : R3) (k s h : Int) (ab ao ac : Nat) (xs : List Int) (R : Nat) (c : Int) (w : World) (hb : b < w.heap.size) (hc : Hid (At3 w b o [x, y])) (hL : Ok3 [x, y])
    (hab : ab < w.heap.size) (ha : ∀ (j : Nat) (a : Int), xs[j]? = some a → w.cell? ⟨ab, ao + j, none⟩ = some (.int .i64 a)) (hl : xs.length ≤ 5000) (hx0 : ∀ a ∈ xs, 0 ≤ a ∧ a ≤ 1000000)
    (hck : schkE [x, y] k s h xs = 0) (hR : dsiz [x] k s h = R) (hC : dsiz [y] k s h = c) (hR1 : R ≤ 1000000) (hc1 : 1 ≤ c) (hc2 : c ≤ 1000000) :
    Calls Try.prog 185 #[.agg #[.slice (some ⟨b, o, none⟩) 2 cap, .int .i64 k, .int .i64 s, .int .i64 h, .slice (some ⟨ab, ao, none⟩) xs.length ac]] w fun e w' => ∃ sv cv, e = .returned (.tuple #[.agg #[sv, cv], .int .i64 0]) ∧
      Hid (w'.ownsRow w.heap.size 3 1 sv (R + 1) (((rowsSt c xs R).1 ++ [((rowsSt c xs R).2.length : Int)]).map (Value.int .i64))) ∧ Hid (w'.ownsRow w.heap.size 3 1 cv (rowsSt c xs R).2.length ((rowsSt c xs R).2.map (Value.int .i64))) ∧ Below w.heap.size w w' := by
  have HL := Lib.hid hL
  have HX := Lib.hid hx0
  have HA := Lib.hid ha
  have CK := Lib.hid hck
  have HR := Lib.hid hR
  have HC := Lib.hid hC
  have RD0 : Hid (Rd w (.slice (some ⟨b, o, none⟩) 2 cap) [x, y]) := Lib.hid ⟨_, _, rfl, Or.inr ⟨b, o, rfl, hb, hc.out⟩⟩
  have RA0 : Hid (Ri w (.slice (some ⟨ab, ao, none⟩) xs.length ac) xs) := Lib.hid ⟨_, _, rfl, Or.inr ⟨ab, ao, rfl, hab, ha⟩⟩
  have rw1 : IntKind.i64.wrap ((R : Int) + 1) = (R : Int) + 1 := IntWalk.i64_in _ (by omega)
  obtain ⟨i0, hi0, hz0, hz1, hz2⟩ := info_parts Try.infoInt
  have a1 : (w.alloc (.cells #[.slice (some ⟨b, o, none⟩) 2 cap, .int .i64 k, .int .i64 s, .int .i64 h, .slice (some ⟨ab, ao, none⟩) xs.length ac] 175)).heap[w.heap.size]? = some (.cells #[.slice (some ⟨b, o, none⟩) 2 cap, .int .i64 k, .int .i64 s, .int .i64 h, .slice (some ⟨ab, ao, none⟩) xs.length ac] 175 (0, 0)) := World.alloc_heap_new w _
  have T0 : Hid (RwS w (.slice (some ⟨b, o, none⟩) 2 cap) (.int .i64 k) (.int .i64 s) (.int .i64 h) (.slice (some ⟨ab, ao, none⟩) xs.length ac) ((w.alloc (.cells #[.slice (some ⟨b, o, none⟩) 2 cap, .int .i64 k, .int .i64 s, .int .i64 h, .slice (some ⟨ab, ao, none⟩) xs.length ac] 175)).alloc (.cells #[.slice none 0 0, .slice none 0 0] 179))) := Lib.hid ⟨(Below.heap_alloc _ _ _ (by simp)).trans a1, (by
    have := World.alloc_heap_new (w.alloc (.cells #[.slice (some ⟨b, o, none⟩) 2 cap, .int .i64 k, .int .i64 s, .int .i64 h, .slice (some ⟨ab, ao, none⟩) xs.length ac] 175)) (.cells #[.slice none 0 0, .slice none 0 0] 179)
    rwa [World.size_alloc] at this), (below_new _ _).alloc (by simp) _, by simp⟩
  clear a1 hL hx0 ha hck hR hC
  go_enter Try.func185, Try.ntmps185
  go_upto_region 1 with fail
  generalize ((w.alloc (.cells #[.slice (some ⟨b, o, none⟩) 2 cap, .int .i64 k, .int .i64 s, .int .i64 h, .slice (some ⟨ab, ao, none⟩) xs.length ac] 175)).alloc (.cells #[.slice none 0 0, .slice none 0 0] 179)) = u0 at *
  obtain ⟨⟨d0, d1, d2, d3, d4⟩, _⟩ := row5 T0.out.d
  go_wp2_with fail
  refine (icheck_any _ [x, y] k s h _ xs _ (RD0.out.keep T0.out.below) HL.out (RA0.out.keep T0.out.below) (by omega)).mono ?_
  rintro e u1 ⟨rfl, hq⟩
  rw [CK.out]
  have T1 := Lib.hid (T0.out.keep (hq.mono T0.out.size))
  clear hq T0 d0 d1 d2 d3 d4
  obtain ⟨⟨d0, d1, d2, d3, d4⟩, _⟩ := row5 T1.out.d
  go_wp2_with fail
  refine (shape_any b o cap x y k s h _ (Nat.lt_of_lt_of_le hb T1.out.below.size) (Lib.hid (hc.out.under T1.out.below hb)) HL.out).mono ?_
  rintro e u2 ⟨rfl, hq⟩
  rw [HR.out, HC.out]
  have T2 := Lib.hid (T1.out.keep (hq.mono T1.out.size))
  clear hq T1 d0 d1 d2 d3 d4
  have s2 := T2.out.size
  go_upto_region 8 with (first | (at_make; refine wpList_make_own _ rfl _ _ 48 rfl (w.heap.size + 2) 3 i0 (.int .i64 0) 1 Try.underlying48 hi0 hz0 hz1 .i64 .i64 _ (R + 1) rfl rfl (by simp) (by rw [hz2]; omega) (by unfold maxLen; omega) s2 ?_; intro u3 own3 grow3) | fail)
  have s3 := grow3.size
  have L3 : u2.heap.size < u3.heap.size := (own3.lt _ rfl).2
  have T4 : Hid (RwL w (.slice (some ⟨b, o, none⟩) 2 cap) (.int .i64 k) (.int .i64 s) (.int .i64 h) (.slice (some ⟨ab, ao, none⟩) xs.length ac) u3.heap.size (.slice (some ⟨u2.heap.size, 0, none⟩) 0 (R + 1)) (.slice none 0 0) [] [] (u3.alloc (.cells #[.slice (some ⟨u2.heap.size, 0, none⟩) 0 (R + 1), .slice none 0 0] 179))) := Lib.hid
    ⟨(T2.out.keep ((Below.refl _ _).grown grow3 s2 (fun g hg => by cases hg))).keep ((below_new _ _).mono (by omega)), World.alloc_heap_new u3 _, owns_below own3 (below_new _ _), World.ownsRow_nil _ _ _ _, by omega, by simp [Value.ownBlock]; omega, by simp [Value.ownBlock], by simp [Value.ownBlock]⟩
  generalize u3.alloc (.cells #[.slice (some ⟨u2.heap.size, 0, none⟩) 0 (R + 1), .slice none 0 0] 179) = u4 at *
  generalize u3.heap.size = rb at *
  clear L3 s3 s2 own3 grow3 T2 rw1
  go_wp2_with fail
  go_loopg [8, 9, 33] (R + 1) (fun gh _ _ v33 wr => ∃ (j : Nat) (sv cv : Value), v33 = .int .i64 j ∧ (j ≤ R ∧ R - j < gh) ∧ Hid (RwL w (.slice (some ⟨b, o, none⟩) 2 cap) (.int .i64 k) (.int .i64 s) (.int .i64 h) (.slice (some ⟨ab, ao, none⟩) xs.length ac) rb sv cv (rowsSt c xs j).1 (rowsSt c xs j).2 wr))
  case atStart => exact ⟨0, _, _, rfl, ⟨by omega, by omega⟩, T4⟩
  case round =>
    obtain ⟨j, sv, cv, rfl, ⟨j0, jg⟩, T⟩ := hrel
    have KG := Lib.hid jg
    clear jg T4
    obtain ⟨wo, rfl⟩ : ∃ wo : World, wo = wr := ⟨_, rfl⟩
    have SL := Lib.hid (rowsSt_len c xs j)
    have CL := rowsSt_col c xs j
    have NX : Hid (rowsSt c xs (j + 1) = ((rowsSt c xs j).1 ++ [((rowsSt c xs j).2.length : Int)], (rowsSt c xs j).2 ++ rowsIn c j (xs.drop (rowsSt c xs j).2.length))) := Lib.hid rfl
    have EN : Hid (j = R → rowsSt c xs R = ((rowsSt c xs j).1, (rowsSt c xs j).2)) := Lib.hid (fun e => by subst e; rfl)
    generalize (rowsSt c xs j).1 = st at *
    generalize (rowsSt c xs j).2 = co at *
    obtain ⟨sao, sc, rfl⟩ := owns_slice T.out.sa
    obtain ⟨cao, cc, rfl⟩ := owns_slice T.out.ca
    have jw : IntKind.i64.wrap ((j : Int) + 1) = (j : Int) + 1 := IntWalk.i64_in _ (by omega)
    obtain ⟨⟨r0, r1⟩, _⟩ := row2 T.out.r
    have RLT := T.out.lt
    have SZ := T.out.s.size
    by_cases hj : j < R
    · go_upto_region 12 with (first | (at_builtin; go_loud (refine wpList_append_own_at _ rfl (.tmp 37) (.tmp 41) 48 rfl (w.heap.size + 2) 3 i0 (.int .i64 0) 1 8 Try.underlying48 hi0 hz0 hz1 hz2 rfl (by decide) _ st.length (st.map (Value.int .i64)) rfl (T.out.sa.alloc _) ⟨wo.heap.size, 0, none⟩ 1 1 [.int .i64 co.length] rfl rfl (cell_one_new _ _ _) (ints_oneCell .i64 [_]) (by have := SL.out; unfold maxLen; omega) (by have := SL.out; omega) (by simp; omega) ?_; intro sv' w1 own1 grow1 hnil hat; obtain ⟨sa1, sc1, rfl⟩ := owns_slice own1; obtain ⟨⟨p0, p1⟩, pf⟩ := row2 ((grow1.block _ (by simp; omega) (fun e => T.out.nsr e.symm)).trans (heap_keep T.out.r (below_new _ _))); have p2 := pf 0)) | fail)
      have T1 := Lib.hid ((T.out.keep (below_new wo (.cells #[.int .i64 co.length] 3))).growS grow1 hat own1)
      clear own1 grow1 hat hnil p0 p1 p2 pf r0 r1
      generalize w1.setCell ⟨rb, 0, none⟩ (.slice sa1 (st.length + 1) sc1) = w2 at *
      obtain ⟨⟨r0, r1⟩, _⟩ := row2 T1.out.r
      clear T RLT SZ
      go_wp2_with fail
      go_loopg [9] (xs.length + 1) (fun gh v9 wi => ∃ (t : List Int) (cv : Value), v9 = .int .i64 t.length ∧ (t.length ≤ xs.length ∧ xs.length - t.length < gh) ∧ Hid (co ++ rowsIn c j (xs.drop co.length) = t ++ rowsIn c j (xs.drop t.length)) ∧ Hid (RwL w (.slice (some ⟨b, o, none⟩) 2 cap) (.int .i64 k) (.int .i64 s) (.int .i64 h) (.slice (some ⟨ab, ao, none⟩) xs.length ac) rb (.slice sa1 (st.length + 1) sc1) cv (st ++ [(co.length : Int)]) t wi))
      case atStart => exact ⟨co, _, rfl, ⟨by omega, by omega⟩, Lib.hid rfl, T1⟩
      case round =>
        obtain ⟨t, cv, rfl, ⟨t0, tg⟩, HE, T⟩ := hrel
        have KI := Lib.hid tg
        clear tg T1 r0 r1
        obtain ⟨cto, ctc, rfl⟩ := owns_slice T.out.ca
        obtain ⟨⟨d0, d1, d2, d3, d4⟩, _⟩ := row5 T.out.s.d
        obtain ⟨⟨r0, r1⟩, _⟩ := row2 T.out.r
        have nw : IntKind.i64.wrap ((t.length : Int) + 1) = (t.length : Int) + 1 := IntWalk.i64_in _ (by omega)
        have cz : ¬ c = 0 := by omega
        by_cases hn : t.length < xs.length
        · obtain ⟨a, hat⟩ : ∃ a, xs[t.length]? = some a := ⟨xs[t.length], List.getElem?_eq_getElem hn⟩
          have PA : Hid (w.cell? ⟨ab, ao + t.length, none⟩ = some (.int .i64 a)) := Lib.hid (HA.out _ a hat)
          have ca : wr.cell? ⟨ab, ao + t.length, none⟩ = some (.int .i64 a) := (T.out.s.below.cell (p := ⟨ab, ao + t.length, none⟩) hab).trans PA.out
          have kd : IntKind.i64.wrap (a.tdiv c) = a.tdiv c := by
            have ax := HX.out a (List.mem_of_getElem? hat)
            have t1 := Int.tdiv_nonneg ax.1 (show 0 ≤ c by omega)
            have t2 := Int.tdiv_le_self c ax.1
            exact IntWalk.i64_in _ (by omega)
          have kj : IntKind.i64.wrap (j : Int) = (j : Int) := IntWalk.i64_in _ (by omega)
          have EE : Hid (rowsIn c j (xs.drop t.length) = if a.tdiv c = j then a.tmod c :: rowsIn c j (xs.drop (t.length + 1)) else []) := Lib.hid (by
            obtain ⟨lt, e⟩ := List.getElem?_eq_some_iff.1 hat
            rw [List.drop_eq_getElem_cons lt, e]
            rfl)
          clear hat
          by_cases e : a.tdiv c = j
          · have EI : Hid (co ++ rowsIn c j (xs.drop co.length) = (t ++ [a.tmod c]) ++ rowsIn c j (xs.drop (t ++ [a.tmod c]).length)) := Lib.hid (by rw [HE.out, EE.out, if_pos e]; simp)
            go_upto_region 15 with fail
            clear EE HE d0 d1 d2 d3 d4 r0 r1 ca kd kj e
            refine wp_region_held_drew (S := (fun w' => RwS w (.slice (some ⟨b, o, none⟩) 2 cap) (.int .i64 k) (.int .i64 s) (.int .i64 h) (.slice (some ⟨ab, ao, none⟩) xs.length ac) w')) (by kernel_rfl) (T.out.s.keep (to_drew (Below.refl _ _))) (fun hHeld => ?_)
            have T := Lib.hid (T.out.keep (to_drew (Below.refl _ _)))
            generalize wr.drew = v0 at *
            refine wpAnyH_take (i := 0) (oi := { dst := some 65, op := Op.fieldAddr 179 (Operand.tmp 7) 1, type := 0, pos := "rows.go:64", after := #[], guard := none }) (v := ?_) rfl (by kernel_rfl) (by kernel_rfl) (by kernel_rfl) (fun _ _ _ h => h) (Or.inl ⟨by rfl, ?_⟩) (by assumption) ?_
            rotate_left
            · (intro wq hSw; (try dsimp only at hSw); have q := (row5 hSw.d).1; have q0 := q.1; have q1 := q.2.1; have q2 := q.2.2.1; have q3 := q.2.2.2.1; have q4 := q.2.2.2.2; clear q; have ca := (hSw.below.cell (p := ⟨ab, ao + t.length, none⟩) hab).trans PA.out; clear hSw; go_simp; first | done | with_reducible rfl)
            try simp only [Act.put, List.setIfInBounds_toArray, List.set_cons_zero, List.set_cons_succ]
            refine wpAnyH_take (i := 2) (oi := { dst := some 67, op := Op.fieldAddr 175 (Operand.tmp 1) 1, type := 0, pos := "rows.go:64", after := #[], guard := none }) (v := ?_) rfl (by kernel_rfl) (by kernel_rfl) (by kernel_rfl) (fun _ _ _ h => h) (Or.inl ⟨by rfl, ?_⟩) (by assumption) ?_
            rotate_left
            · (intro wq hSw; (try dsimp only at hSw); have q := (row5 hSw.d).1; have q0 := q.1; have q1 := q.2.1; have q2 := q.2.2.1; have q3 := q.2.2.2.1; have q4 := q.2.2.2.2; clear q; have ca := (hSw.below.cell (p := ⟨ab, ao + t.length, none⟩) hab).trans PA.out; clear hSw; go_simp; first | done | with_reducible rfl)
            try simp only [Act.put, List.setIfInBounds_toArray, List.set_cons_zero, List.set_cons_succ]
            refine wpAnyH_take (i := 3) (oi := { dst := some 68, op := Op.load 48 (Operand.tmp 67), type := 48, pos := "rows.go:64", after := #[{ on := 2, ground := Ground.data }], guard := none }) (v := ?_) rfl (by kernel_rfl) (by kernel_rfl) (by kernel_rfl) (fun _ _ _ h => h) (Or.inl ⟨by rfl, ?_⟩) (by assumption) ?_
            rotate_left
            · (intro wq hSw; (try dsimp only at hSw); have q := (row5 hSw.d).1; have q0 := q.1; have q1 := q.2.1; have q2 := q.2.2.1; have q3 := q.2.2.2.1; have q4 := q.2.2.2.2; clear q; have ca := (hSw.below.cell (p := ⟨ab, ao + t.length, none⟩) hab).trans PA.out; clear hSw; go_simp; first | done | with_reducible rfl)
            try simp only [Act.put, List.setIfInBounds_toArray, List.set_cons_zero, List.set_cons_succ]
            refine wpAnyH_take (i := 4) (oi := { dst := some 69, op := Op.move (Operand.tmp 9), type := 3, pos := "rows.go:64", after := #[], guard := none }) (v := ?_) rfl (by kernel_rfl) (by kernel_rfl) (by kernel_rfl) (fun _ _ _ h => h) (Or.inl ⟨by rfl, ?_⟩) (by assumption) ?_
            rotate_left
            · (intro wq hSw; (try dsimp only at hSw); have q := (row5 hSw.d).1; have q0 := q.1; have q1 := q.2.1; have q2 := q.2.2.1; have q3 := q.2.2.2.1; have q4 := q.2.2.2.2; clear q; have ca := (hSw.below.cell (p := ⟨ab, ao + t.length, none⟩) hab).trans PA.out; clear hSw; go_simp; first | done | with_reducible rfl)
            try simp only [Act.put, List.setIfInBounds_toArray, List.set_cons_zero, List.set_cons_succ]
            refine wpAnyH_take (i := 5) (oi := { dst := some 70, op := Op.indexAddr 48 (Operand.tmp 68) (Operand.tmp 69), type := 0, pos := "rows.go:64", after := #[{ on := 3, ground := Ground.data }, { on := 4, ground := Ground.data }], guard := none }) (v := ?_) rfl (by kernel_rfl) (by kernel_rfl) (by kernel_rfl) (fun _ _ _ h => h) (Or.inl ⟨by rfl, ?_⟩) (by assumption) ?_
            rotate_left
            · (intro wq hSw; (try dsimp only at hSw); have q := (row5 hSw.d).1; have q0 := q.1; have q1 := q.2.1; have q2 := q.2.2.1; have q3 := q.2.2.2.1; have q4 := q.2.2.2.2; clear q; have ca := (hSw.below.cell (p := ⟨ab, ao + t.length, none⟩) hab).trans PA.out; clear hSw; go_simp; first | done | with_reducible rfl)
            try simp only [Act.put, List.setIfInBounds_toArray, List.set_cons_zero, List.set_cons_succ]
            refine wpAnyH_take (i := 6) (oi := { dst := some 71, op := Op.load 3 (Operand.tmp 70), type := 3, pos := "rows.go:64", after := #[{ on := 5, ground := Ground.data }], guard := none }) (v := ?_) rfl (by kernel_rfl) (by kernel_rfl) (by kernel_rfl) (fun _ _ _ h => h) (Or.inl ⟨by rfl, ?_⟩) (by assumption) ?_
            rotate_left
            · (intro wq hSw; (try dsimp only at hSw); have q := (row5 hSw.d).1; have q0 := q.1; have q1 := q.2.1; have q2 := q.2.2.1; have q3 := q.2.2.2.1; have q4 := q.2.2.2.2; clear q; have ca := (hSw.below.cell (p := ⟨ab, ao + t.length, none⟩) hab).trans PA.out; clear hSw; go_simp; first | done | with_reducible rfl)
            try simp only [Act.put, List.setIfInBounds_toArray, List.set_cons_zero, List.set_cons_succ]
            refine wpAnyH_take (i := 7) (oi := { dst := some 72, op := Op.move (Operand.tmp 6), type := 3, pos := "rows.go:64", after := #[], guard := none }) (v := ?_) rfl (by kernel_rfl) (by kernel_rfl) (by kernel_rfl) (fun _ _ _ h => h) (Or.inl ⟨by rfl, ?_⟩) (by assumption) ?_
            rotate_left
            · (intro wq hSw; (try dsimp only at hSw); have q := (row5 hSw.d).1; have q0 := q.1; have q1 := q.2.1; have q2 := q.2.2.1; have q3 := q.2.2.2.1; have q4 := q.2.2.2.2; clear q; have ca := (hSw.below.cell (p := ⟨ab, ao + t.length, none⟩) hab).trans PA.out; clear hSw; go_simp; first | done | with_reducible rfl)
            try simp only [Act.put, List.setIfInBounds_toArray, List.set_cons_zero, List.set_cons_succ]
            refine wpAnyH_take (i := 8) (oi := { dst := some 73, op := Op.binOp BinOp.rem 3 (Operand.tmp 71) (Operand.tmp 72) 3, type := 3, pos := "rows.go:64", after := #[{ on := 6, ground := Ground.data }, { on := 7, ground := Ground.data }], guard := none }) (v := ?_) rfl (by kernel_rfl) (by kernel_rfl) (by kernel_rfl) (fun _ _ _ h => h) (Or.inl ⟨by rfl, ?_⟩) (by assumption) ?_
            rotate_left
            · (intro wq hSw; (try dsimp only at hSw); have q := (row5 hSw.d).1; have q0 := q.1; have q1 := q.2.1; have q2 := q.2.2.1; have q3 := q.2.2.2.1; have q4 := q.2.2.2.2; clear q; have ca := (hSw.below.cell (p := ⟨ab, ao + t.length, none⟩) hab).trans PA.out; clear hSw; go_simp; first | done | with_reducible rfl)
            try simp only [Act.put, List.setIfInBounds_toArray, List.set_cons_zero, List.set_cons_succ]
            refine wpAnyH_ready (rs := [1, 9]) (by kernel_rfl) (by simp) ?_
            refine AllReadyH.cons (o := { dst := some 66, op := Op.load 48 (Operand.tmp 65), type := 48, pos := "rows.go:64", after := #[{ on := 0, ground := Ground.data }], guard := none }) rfl (fun K hK => ?_) ?_
            · go_simp
              have r1 := (row2 T.out.r).1.2
              go_simp
              have hS := hHeld
              refine hK.out _ _ hS (fun hHeld => ?_)
              clear hK K hHeld
              clear r1
              have hHeld := hS
              clear hS
              try simp only [Act.put, List.setIfInBounds_toArray, List.set_cons_zero, List.set_cons_succ]
              refine wpAnyH_ready (rs := [9]) (by kernel_rfl) (by simp) ?_
              refine AllReadyH.cons (o := { dst := some 74, op := Op.buildSlice 48 1 #[(0, Operand.tmp 73)], type := 48, pos := "rows.go:64", after := #[{ on := 8, ground := Ground.data }], guard := none }) rfl (fun K hK => ?_) AllReadyH.nil
              go_simp
              have hq := below_new v0 (.cells #[(.int .i64 (a.tmod c))] 3)
              have NW := cell_one_new v0 (.int .i64 (a.tmod c)) 3
              have T := Lib.hid (T.out.keep hq)
              have hS := T.out.s
              refine hK.out _ _ hS (fun hHeld => ?_)
              clear hK K hHeld
              clear hq
              generalize v0.alloc (.cells #[(.int .i64 (a.tmod c))] 3) = v2 at *
              have hHeld := hS
              clear hS
              try simp only [Act.put, List.setIfInBounds_toArray, List.set_cons_zero, List.set_cons_succ]
              refine wpAnyH_ready (rs := [10]) (by kernel_rfl) (by simp) ?_
              refine AllReadyH.cons (o := { dst := some 75, op := Op.call { callee := Callee.builtin Builtin.append, args := #[Operand.tmp 66, Operand.tmp 74], argTypes := #[48, 48] }, type := 48, pos := "rows.go:64", after := #[{ on := 1, ground := Ground.data }, { on := 9, ground := Ground.data }], guard := none }) rfl (fun K hK => ?_) AllReadyH.nil
              refine step_append_lies _ rfl (.tmp 66) (.tmp 74) 48 rfl (w.heap.size + 2) 3 i0 (.int .i64 0) 1 8 Try.underlying48 hi0 hz0 hz1 hz2 rfl (by decide) _ t.length (t.map (Value.int .i64)) (by simp [Act.eval, Act.put]) T.out.ca ⟨v0.heap.size, 0, none⟩ 1 1 [(.int .i64 (a.tmod c))] (by simp [Act.eval, Act.put]) rfl NW (ints_oneCell .i64 [_]) (by omega) (by unfold maxLen; omega) (by omega) T.out.s.size _ rfl ?_
              intro gg cap2 v3 own2 grow2 hat hlt
              have hS := T.out.s.keep ((Below.refl _ _).grown grow2 T.out.s.size (fun g hg => (T.out.ca.lt g hg).1))
              have RB := (grow2.block _ T.out.lt (fun e => T.out.ncr e.symm)).trans T.out.r
              refine hK.out _ _ hS (fun hHeld => ?_)
              clear hK K hHeld
              clear NW hlt
              have hHeld := hS
              clear hS
              try simp only [Act.put, List.setIfInBounds_toArray, List.set_cons_zero, List.set_cons_succ]
              refine wpAnyH_take (i := 11) (oi := { dst := some 76, op := Op.fieldAddr 179 (Operand.tmp 7) 1, type := 0, pos := "rows.go:64", after := #[{ on := 0, ground := Ground.phase }, { on := 1, ground := Ground.phase }, { on := 2, ground := Ground.phase }, { on := 3, ground := Ground.phase }, { on := 4, ground := Ground.phase }, { on := 5, ground := Ground.phase }, { on := 6, ground := Ground.phase }, { on := 7, ground := Ground.phase }, { on := 8, ground := Ground.phase }, { on := 9, ground := Ground.phase }, { on := 10, ground := Ground.phase }], guard := none }) (v := ?_) rfl (by kernel_rfl) (by kernel_rfl) (by kernel_rfl) (fun _ _ _ h => h) (Or.inl ⟨by rfl, ?_⟩) (by assumption) ?_
              rotate_left
              · (intro wq hSw; (try dsimp only at hSw); have q := (row5 hSw.d).1; have q0 := q.1; have q1 := q.2.1; have q2 := q.2.2.1; have q3 := q.2.2.2.1; have q4 := q.2.2.2.2; clear q; have ca := (hSw.below.cell (p := ⟨ab, ao + t.length, none⟩) hab).trans PA.out; clear hSw; go_simp; first | done | with_reducible rfl)
              try simp only [Act.put, List.setIfInBounds_toArray, List.set_cons_zero, List.set_cons_succ]
              refine wpAnyH_ready (rs := [12]) (by kernel_rfl) (by simp) ?_
              refine AllReadyH.cons (o := { dst := none, op := Op.store 48 (Operand.tmp 76) (Operand.tmp 75), type := 0, pos := "rows.go:64", after := #[{ on := 11, ground := Ground.data }, { on := 10, ground := Ground.data }, { on := 10, ground := Ground.chain }, { on := 0, ground := Ground.phase }, { on := 1, ground := Ground.phase }, { on := 2, ground := Ground.phase }, { on := 3, ground := Ground.phase }, { on := 4, ground := Ground.phase }, { on := 5, ground := Ground.phase }, { on := 6, ground := Ground.phase }, { on := 7, ground := Ground.phase }, { on := 8, ground := Ground.phase }, { on := 9, ground := Ground.phase }, { on := 10, ground := Ground.phase }], guard := none }) rfl (fun K hK => ?_) AllReadyH.nil
              go_simp
              have r1 := (row2 RB).1.2
              have f1 := (row2 RB).2 1
              go_simp
              have T := Lib.hid (T.out.growC (cv' := (.slice (some ⟨gg, 0, none⟩) (t.length + 1) cap2)) grow2 (hat.elim (fun h => Or.inl h.symm) (fun h => Or.inr (by rw [h]; rfl))) own2)
              have hS := T.out.s
              refine hK.out _ _ hS (fun hHeld => ?_)
              clear hK K hHeld
              clear r1 f1 RB grow2 own2 hat
              generalize v3.setCell ⟨rb, 1, none⟩ (.slice (some ⟨gg, 0, none⟩) (t.length + 1) cap2) = v4 at *
              have hHeld := hS
              clear hS
              try simp only [Act.put, List.setIfInBounds_toArray, List.set_cons_zero, List.set_cons_succ]
              refine wpAnyH_done (by kernel_rfl) ?_ _
              clear hHeld
              go_wp2_with fail
              go_roundg (xs.length - t.length)
              case measure => exact KI.out
              case rel => exact ⟨t ++ [a.tmod c], _, by simp, ⟨by simp; omega, by simp; omega⟩, EI, T⟩
            refine AllReadyH.cons (o := { dst := some 74, op := Op.buildSlice 48 1 #[(0, Operand.tmp 73)], type := 48, pos := "rows.go:64", after := #[{ on := 8, ground := Ground.data }], guard := none }) rfl (fun K hK => ?_) ?_
            · go_simp
              have hq := below_new v0 (.cells #[(.int .i64 (a.tmod c))] 3)
              have NW := cell_one_new v0 (.int .i64 (a.tmod c)) 3
              have T := Lib.hid (T.out.keep hq)
              have hS := T.out.s
              refine hK.out _ _ hS (fun hHeld => ?_)
              clear hK K hHeld
              clear hq
              generalize v0.alloc (.cells #[(.int .i64 (a.tmod c))] 3) = v5 at *
              have hHeld := hS
              clear hS
              try simp only [Act.put, List.setIfInBounds_toArray, List.set_cons_zero, List.set_cons_succ]
              refine wpAnyH_ready (rs := [1]) (by kernel_rfl) (by simp) ?_
              refine AllReadyH.cons (o := { dst := some 66, op := Op.load 48 (Operand.tmp 65), type := 48, pos := "rows.go:64", after := #[{ on := 0, ground := Ground.data }], guard := none }) rfl (fun K hK => ?_) AllReadyH.nil
              go_simp
              have r1 := (row2 T.out.r).1.2
              go_simp
              have hS := hHeld
              refine hK.out _ _ hS (fun hHeld => ?_)
              clear hK K hHeld
              clear r1
              have hHeld := hS
              clear hS
              try simp only [Act.put, List.setIfInBounds_toArray, List.set_cons_zero, List.set_cons_succ]
              refine wpAnyH_ready (rs := [10]) (by kernel_rfl) (by simp) ?_
              refine AllReadyH.cons (o := { dst := some 75, op := Op.call { callee := Callee.builtin Builtin.append, args := #[Operand.tmp 66, Operand.tmp 74], argTypes := #[48, 48] }, type := 48, pos := "rows.go:64", after := #[{ on := 1, ground := Ground.data }, { on := 9, ground := Ground.data }], guard := none }) rfl (fun K hK => ?_) AllReadyH.nil
              refine step_append_lies _ rfl (.tmp 66) (.tmp 74) 48 rfl (w.heap.size + 2) 3 i0 (.int .i64 0) 1 8 Try.underlying48 hi0 hz0 hz1 hz2 rfl (by decide) _ t.length (t.map (Value.int .i64)) (by simp [Act.eval, Act.put]) T.out.ca ⟨v0.heap.size, 0, none⟩ 1 1 [(.int .i64 (a.tmod c))] (by simp [Act.eval, Act.put]) rfl NW (ints_oneCell .i64 [_]) (by omega) (by unfold maxLen; omega) (by omega) T.out.s.size _ rfl ?_
              intro gg cap2 v7 own2 grow2 hat hlt
              have hS := T.out.s.keep ((Below.refl _ _).grown grow2 T.out.s.size (fun g hg => (T.out.ca.lt g hg).1))
              have RB := (grow2.block _ T.out.lt (fun e => T.out.ncr e.symm)).trans T.out.r
              refine hK.out _ _ hS (fun hHeld => ?_)
              clear hK K hHeld
              clear NW hlt
              have hHeld := hS
              clear hS
              try simp only [Act.put, List.setIfInBounds_toArray, List.set_cons_zero, List.set_cons_succ]
              refine wpAnyH_take (i := 11) (oi := { dst := some 76, op := Op.fieldAddr 179 (Operand.tmp 7) 1, type := 0, pos := "rows.go:64", after := #[{ on := 0, ground := Ground.phase }, { on := 1, ground := Ground.phase }, { on := 2, ground := Ground.phase }, { on := 3, ground := Ground.phase }, { on := 4, ground := Ground.phase }, { on := 5, ground := Ground.phase }, { on := 6, ground := Ground.phase }, { on := 7, ground := Ground.phase }, { on := 8, ground := Ground.phase }, { on := 9, ground := Ground.phase }, { on := 10, ground := Ground.phase }], guard := none }) (v := ?_) rfl (by kernel_rfl) (by kernel_rfl) (by kernel_rfl) (fun _ _ _ h => h) (Or.inl ⟨by rfl, ?_⟩) (by assumption) ?_
              rotate_left
              · (intro wq hSw; (try dsimp only at hSw); have q := (row5 hSw.d).1; have q0 := q.1; have q1 := q.2.1; have q2 := q.2.2.1; have q3 := q.2.2.2.1; have q4 := q.2.2.2.2; clear q; have ca := (hSw.below.cell (p := ⟨ab, ao + t.length, none⟩) hab).trans PA.out; clear hSw; go_simp; first | done | with_reducible rfl)
              try simp only [Act.put, List.setIfInBounds_toArray, List.set_cons_zero, List.set_cons_succ]
              refine wpAnyH_ready (rs := [12]) (by kernel_rfl) (by simp) ?_
              refine AllReadyH.cons (o := { dst := none, op := Op.store 48 (Operand.tmp 76) (Operand.tmp 75), type := 0, pos := "rows.go:64", after := #[{ on := 11, ground := Ground.data }, { on := 10, ground := Ground.data }, { on := 10, ground := Ground.chain }, { on := 0, ground := Ground.phase }, { on := 1, ground := Ground.phase }, { on := 2, ground := Ground.phase }, { on := 3, ground := Ground.phase }, { on := 4, ground := Ground.phase }, { on := 5, ground := Ground.phase }, { on := 6, ground := Ground.phase }, { on := 7, ground := Ground.phase }, { on := 8, ground := Ground.phase }, { on := 9, ground := Ground.phase }, { on := 10, ground := Ground.phase }], guard := none }) rfl (fun K hK => ?_) AllReadyH.nil
              go_simp
              have r1 := (row2 RB).1.2
              have f1 := (row2 RB).2 1
              go_simp
              have T := Lib.hid (T.out.growC (cv' := (.slice (some ⟨gg, 0, none⟩) (t.length + 1) cap2)) grow2 (hat.elim (fun h => Or.inl h.symm) (fun h => Or.inr (by rw [h]; rfl))) own2)
              have hS := T.out.s
              refine hK.out _ _ hS (fun hHeld => ?_)
              clear hK K hHeld
              clear r1 f1 RB grow2 own2 hat
              generalize v7.setCell ⟨rb, 1, none⟩ (.slice (some ⟨gg, 0, none⟩) (t.length + 1) cap2) = v8 at *
              have hHeld := hS
              clear hS
              try simp only [Act.put, List.setIfInBounds_toArray, List.set_cons_zero, List.set_cons_succ]
              refine wpAnyH_done (by kernel_rfl) ?_ _
              clear hHeld
              go_wp2_with fail
              go_roundg (xs.length - t.length)
              case measure => exact KI.out
              case rel => exact ⟨t ++ [a.tmod c], _, by simp, ⟨by simp; omega, by simp; omega⟩, EI, T⟩
            exact AllReadyH.nil
          · have EX : Hid (co ++ rowsIn c j (xs.drop co.length) = t) := Lib.hid (by rw [HE.out, EE.out, if_neg e]; simp)
            go_wp2_with fail
            go_roundg (R - j)
            case measure => exact KG.out
            case rel => exact ⟨j + 1, _, _, by go_num, ⟨by omega, by omega⟩, Lib.hid (by rw [NX.out, EX.out]; simpa using T.out)⟩
        · have EX : Hid (co ++ rowsIn c j (xs.drop co.length) = t) := Lib.hid (by rw [HE.out, List.drop_eq_nil_of_le (by omega)]; simp [rowsIn])
          go_wp2_with fail
          go_roundg (R - j)
          case measure => exact KG.out
          case rel => exact ⟨j + 1, _, _, by go_num, ⟨by omega, by omega⟩, Lib.hid (by rw [NX.out, EX.out]; simpa using T.out)⟩
    · have ER := Lib.hid (EN.out (by omega))
      go_upto_region 18 with (first | (at_builtin; refine wpList_append_own_at _ rfl (.tmp 79) (.tmp 83) 48 rfl (w.heap.size + 2) 3 i0 (.int .i64 0) 1 8 Try.underlying48 hi0 hz0 hz1 hz2 rfl (by decide) _ st.length (st.map (Value.int .i64)) rfl (T.out.sa.alloc _) ⟨wo.heap.size, 0, none⟩ 1 1 [.int .i64 co.length] rfl rfl (cell_one_new _ _ _) (ints_oneCell .i64 [_]) (by have := SL.out; unfold maxLen; omega) (by have := SL.out; omega) (by simp; omega) ?_; intro sv' w1 own1 grow1 hnil hat; obtain ⟨sa1, sc1, rfl⟩ := owns_slice own1; obtain ⟨⟨p0, p1⟩, pf⟩ := row2 ((grow1.block _ (by simp; omega) (fun e => T.out.nsr e.symm)).trans (heap_keep T.out.r (below_new _ _))); have p2 := pf 0) | fail)
      have T1 := Lib.hid ((T.out.keep (below_new wo (.cells #[.int .i64 co.length] 3))).growS grow1 hat own1)
      clear own1 grow1 hat hnil p0 p1 p2 pf r0 r1
      generalize w1.setCell ⟨rb, 0, none⟩ (.slice sa1 (st.length + 1) sc1) = w2 at *
      obtain ⟨⟨r0, r1⟩, _⟩ := row2 T1.out.r
      obtain ⟨⟨z0, z1⟩, zf⟩ := row2 T1.out.s.z
      have f0 := zf 0
      have f1 := zf 1
      clear T RLT SZ zf
      have H5 := set2_heap (a' := .slice sa1 (st.length + 1) sc1) (b' := .slice cao co.length cc) T1.out.s.z
      have B5 : Hid (Below w.heap.size w ((w2.setCell ⟨w.heap.size + 1, 0, none⟩ (.slice sa1 (st.length + 1) sc1)).setCell ⟨w.heap.size + 1, 1, none⟩ (.slice cao co.length cc))) := Lib.hid (T1.out.s.below.trans (((Below.refl _ _).setCell (p := ⟨w.heap.size + 1, 0, none⟩) (by simp) _).setCell (p := ⟨w.heap.size + 1, 1, none⟩) (by simp) _))
      have P5 : Hid (((w2.setCell ⟨w.heap.size + 1, 0, none⟩ (.slice sa1 (st.length + 1) sc1)).setCell ⟨w.heap.size + 1, 1, none⟩ (.slice cao co.length cc)).ownsRow w.heap.size 3 1 (.slice sa1 (st.length + 1) sc1) (R + 1) (((rowsSt c xs R).1 ++ [((rowsSt c xs R).2.length : Int)]).map (Value.int .i64))) := Lib.hid (by
        rw [ER.out]
        have q := T1.out.sa
        simp only [List.length_append, List.length_singleton] at q
        have e1 : st.length + 1 = R + 1 := by have := SL.out; omega
        rw [e1] at q ⊢
        exact owns_base (ownsRow_setCell_below (ownsRow_setCell_below q (show w.heap.size + 1 < _ by omega) _) (show w.heap.size + 1 < _ by omega) _) (by omega))
      have Q5 : Hid (((w2.setCell ⟨w.heap.size + 1, 0, none⟩ (.slice sa1 (st.length + 1) sc1)).setCell ⟨w.heap.size + 1, 1, none⟩ (.slice cao co.length cc)).ownsRow w.heap.size 3 1 (.slice cao co.length cc) (rowsSt c xs R).2.length ((rowsSt c xs R).2.map (Value.int .i64))) := Lib.hid (by
        rw [ER.out]
        exact owns_base (ownsRow_setCell_below (ownsRow_setCell_below T1.out.ca (show w.heap.size + 1 < _ by omega) _) (show w.heap.size + 1 < _ by omega) _) (by omega))
      have R5 := Lib.hid (row2 H5)
      clear H5
      go_wp2
      change bodyPost _ _ _ Exit.ret _ ((w2.setCell ⟨w.heap.size + 1, 0, none⟩ (.slice sa1 (st.length + 1) sc1)).setCell ⟨w.heap.size + 1, 1, none⟩ (.slice cao co.length cc))
      generalize (w2.setCell ⟨w.heap.size + 1, 0, none⟩ (.slice sa1 (st.length + 1) sc1)).setCell ⟨w.heap.size + 1, 1, none⟩ (.slice cao co.length cc) = w5 at *
      obtain ⟨y0, y1⟩ := R5.out.1
      clear z0 z1 f0 f1 r0 r1
      exact bodyPost_ret (v := .tuple #[.agg #[.slice sa1 (st.length + 1) sc1, .slice cao co.length cc], .int .i64 0]) (by simp [results, Try.results185, go_sem, y0, y1]) rfl ⟨_, _, rfl, P5, Q5, B5.out⟩
end Go.Proofs.Ytcpeailodgoilaa
