/-
  Part 10: IrY, IrK.
-/
import Derived.Test.YtcpeailodgoilaaKy9
import Derived.BigQuiet
import Derived.Deep.CutBlock
import Derived.Deep.DeepCutAuto
import Derived.Deep.DrawnRows
import Derived.Deep.LoopGhost
import Derived.Deep.QuietTactic
import Derived.Deep.RegionHeld3
import Derived.Deep.RegionWith
import Derived.DeepKeys4
import Derived.Laws.Cover3
import Derived.Lib.Hide
import Derived.Maps.AppendAt
import Derived.Maps.Own
import Derived.Maps.Views
import Derived.OwnWalk
import Derived.Sort.OwnSorted
import Derived.WalkKit
import Derived.WalkLawsBesides
import Derived.WalkSpells
namespace Go.Proofs.Ytcpeailodgoilaa
open Go.RowKit
theorem row5 {w : World} {g : Nat} {a b c d e : Value} {t : TypeId} (h : w.heap[g]? = some (.cells #[a, b, c, d, e] t (0, 0))) : (w.cell? ⟨g, 0, none⟩ = some a ∧ w.cell? ⟨g, 1, none⟩ = some b ∧ w.cell? ⟨g, 2, none⟩ = some c ∧ w.cell? ⟨g, 3, none⟩ = some d ∧ w.cell? ⟨g, 4, none⟩ = some e) ∧ ∀ i, w.frozen? ⟨g, i, none⟩ = false := by
  refine ⟨⟨?_, ?_, ?_, ?_, ?_⟩, fun i => ?_⟩
  · simp [World.cell?, h]
  · simp [World.cell?, h]
  · simp [World.cell?, h]
  · simp [World.cell?, h]
  · simp [World.cell?, h]
  · simp [World.frozen?, h]
theorem setCell_at {w : World} {g i : Nat} {cs : Array Value} {t : TypeId} {fr : Nat × Nat} (h : w.heap[g]? = some (.cells cs t fr)) (v : Value) : (w.setCell ⟨g, i, none⟩ v).heap[g]? = some (.cells (cs.setIfInBounds i v) t fr) := by
  obtain ⟨hlt, hk⟩ := Array.getElem?_eq_some_iff.1 h
  show (w.heap.modify g _)[g]? = _
  rw [Array.getElem?_eq_getElem (by simpa using hlt), Array.getElem_modify_self]
  rw [hk]
  rfl
def set5 (w : World) (g : Nat) (a b c d e : Value) : World := ((((w.setCell ⟨g, 0, none⟩ a).setCell ⟨g, 1, none⟩ b).setCell ⟨g, 2, none⟩ c).setCell ⟨g, 3, none⟩ d).setCell ⟨g, 4, none⟩ e
theorem set5_at {w : World} {g : Nat} {a b c d e a' b' c' d' e' : Value} {t : TypeId} (h : w.heap[g]? = some (.cells #[a, b, c, d, e] t (0, 0))) : (set5 w g a' b' c' d' e').heap[g]? = some (.cells #[a', b', c', d', e'] t (0, 0)) := by
  have h0 := setCell_at (i := 0) h a'
  have h1 := setCell_at (i := 1) h0 b'
  have h2 := setCell_at (i := 2) h1 c'
  have h3 := setCell_at (i := 3) h2 d'
  have h4 := setCell_at (i := 4) h3 e'
  simp only [List.setIfInBounds_toArray, List.set_cons_zero, List.set_cons_succ] at h4
  exact h4
theorem set5_below {B g : Nat} {w : World} (h : B ≤ g) (a b c d e : Value) : Below B w (set5 w g a b c d e) :=
  (((((Below.refl _ _).setCell (p := ⟨g, 0, none⟩) h a).setCell (p := ⟨g, 1, none⟩) h b).setCell (p := ⟨g, 2, none⟩) h c).setCell (p := ⟨g, 3, none⟩) h d).setCell (p := ⟨g, 4, none⟩) h e
set_option maxRecDepth 100000 in
set_option maxHeartbeats 6400000 in
theorem isorted_any (b o cap : Nat) (L : List R3) (k s h : Int) (av : Value) (xs : List Int) (base : Nat) (w : World) (hbase : base ≤ w.heap.size) (hb : b < base) (hc : Hid (At3 w b o L)) (hn : L.length ≤ 1000)
    (own : Hid (w.ownsRow base 3 1 av xs.length (xs.map (Value.int .i64)))) (hx : xs.length ≤ 5000) :
    Calls Try.prog 234 #[.agg #[.slice (some ⟨b, o, none⟩) L.length cap, .int .i64 k, .int .i64 s, .int .i64 h], av] w fun e w' => ∃ v', e = .returned (.tuple #[.agg #[v', .int .i64 k, .int .i64 s, .int .i64 h, av], .int .i64 0]) ∧
      Hid (w'.ownsRow w.heap.size 23 3 v' L.length (cells3 L)) ∧ Hid (w'.ownsRow base 3 1 av xs.length ((srt xs).map (Value.int .i64))) ∧ Below base w w' := by
  obtain ⟨ao, ca, rfl⟩ := owns_slice own.out
  have OL := Lib.hid (own.out.lt)
  have nx : ¬ (5000 : Int) < (xs.length : Int) := by omega
  have a1 : (w.alloc (.cells #[.slice (some ⟨b, o, none⟩) L.length cap, .int .i64 k, .int .i64 s, .int .i64 h] 62)).heap[w.heap.size]? = some (.cells #[.slice (some ⟨b, o, none⟩) L.length cap, .int .i64 k, .int .i64 s, .int .i64 h] 62 (0, 0)) := World.alloc_heap_new w _
  have DH : Hid (((w.alloc (.cells #[.slice (some ⟨b, o, none⟩) L.length cap, .int .i64 k, .int .i64 s, .int .i64 h] 62)).alloc (.cells #[.slice none 0 0, .int .i64 0, .int .i64 0, .int .i64 0, .slice none 0 0] 175)).heap[w.heap.size]? = some (.cells #[.slice (some ⟨b, o, none⟩) L.length cap, .int .i64 k, .int .i64 s, .int .i64 h] 62 (0, 0))) := Lib.hid ((Below.heap_alloc _ _ _ (by simp)).trans a1)
  have ZH : Hid (((w.alloc (.cells #[.slice (some ⟨b, o, none⟩) L.length cap, .int .i64 k, .int .i64 s, .int .i64 h] 62)).alloc (.cells #[.slice none 0 0, .int .i64 0, .int .i64 0, .int .i64 0, .slice none 0 0] 175)).heap[w.heap.size + 1]? = some (.cells #[.slice none 0 0, .int .i64 0, .int .i64 0, .int .i64 0, .slice none 0 0] 175 (0, 0))) := Lib.hid (by
    have := World.alloc_heap_new (w.alloc (.cells #[.slice (some ⟨b, o, none⟩) L.length cap, .int .i64 k, .int .i64 s, .int .i64 h] 62)) (.cells #[.slice none 0 0, .int .i64 0, .int .i64 0, .int .i64 0, .slice none 0 0] 175)
    rwa [World.size_alloc] at this)
  have B2 : Hid (Below w.heap.size w ((w.alloc (.cells #[.slice (some ⟨b, o, none⟩) L.length cap, .int .i64 k, .int .i64 s, .int .i64 h] 62)).alloc (.cells #[.slice none 0 0, .int .i64 0, .int .i64 0, .int .i64 0, .slice none 0 0] 175))) := Lib.hid ((below_new _ _).alloc (by simp) _)
  have S2 : Hid (w.heap.size + 2 ≤ ((w.alloc (.cells #[.slice (some ⟨b, o, none⟩) L.length cap, .int .i64 k, .int .i64 s, .int .i64 h] 62)).alloc (.cells #[.slice none 0 0, .int .i64 0, .int .i64 0, .int .i64 0, .slice none 0 0] 175)).heap.size) := Lib.hid (by simp)
  have O2 := Lib.hid (owns_below own.out B2.out)
  clear a1 own
  go_enter Try.func234, Try.ntmps234
  go_upto_region 1 with fail
  generalize ((w.alloc (.cells #[.slice (some ⟨b, o, none⟩) L.length cap, .int .i64 k, .int .i64 s, .int .i64 h] 62)).alloc (.cells #[.slice none 0 0, .int .i64 0, .int .i64 0, .int .i64 0, .slice none 0 0] 175)) = w2 at *
  go_wp2_with fail
  refine (sort_any _ xs base _ O2.out hx).mono ?_
  rintro e w3 ⟨rfl, ow3, grow⟩
  have ne : ∀ j, w.heap.size ≤ j → some j ≠ (Value.slice ao xs.length ca).ownBlock := fun j hj e => by have := (OL.out j e.symm).2; omega
  have DH3 := Lib.hid ((grow.block _ (Array.getElem?_eq_some_iff.1 DH.out).1 (ne _ (Nat.le_refl _))).trans DH.out)
  have ZH3 := Lib.hid ((grow.block _ (Array.getElem?_eq_some_iff.1 ZH.out).1 (ne _ (by omega))).trans ZH.out)
  have B3 : Hid (Below base w w3) := Lib.hid ((B2.out.mono hbase).grown grow (by have := S2.out; omega) (fun g hg => (O2.out.lt g hg).1))
  have S3 : Hid (w.heap.size + 2 ≤ w3.heap.size) := Lib.hid (Nat.le_trans S2.out grow.size)
  have A3 : Hid (At3 w3 b o L) := Lib.hid (hc.out.under B3.out hb)
  have OW3 := Lib.hid ow3.out
  obtain ⟨d0, d1, d2, d3⟩ := row4 DH3.out
  clear grow ow3 ne DH ZH B2 S2 O2
  go_wp2_with fail
  refine (iwith_any (.slice (some ⟨b, o, none⟩) L.length cap) k s h b o cap L _ (by have := S3.out; omega) A3 hn ⟨_, _, _, rfl⟩).mono ?_
  rintro e w4 ⟨v', rfl, ow4, hb4⟩
  have ZH4 := Lib.hid (heap_keep ZH3.out hb4)
  have B4 : Hid (Below base w w4) := Lib.hid (B3.out.trans (hb4.mono (by have := S3.out; omega)))
  have OA4 := Lib.hid (owns_below OW3.out hb4)
  have OV4 := Lib.hid ow4.out
  obtain ⟨ra, rc, rfl⟩ := owns_slice OV4.out
  obtain ⟨⟨z0, z1, z2, z3, z4⟩, fz⟩ := row5 ZH4.out
  have f0 := fz 0
  have f1 := fz 1
  have f2 := fz 2
  have f3 := fz 3
  have f4 := fz 4
  have s3 := S3.out
  have ol := OL.out
  clear fz ow4 hb4 DH3 ZH3 A3 d0 d1 d2 d3
  have H5 := set5_at (a' := .slice ra L.length rc) (b' := .int .i64 k) (c' := .int .i64 s) (d' := .int .i64 h) (e' := .slice ao xs.length ca) ZH4.out
  have B5 : Hid (Below base w (set5 w4 (w.heap.size + 1) (.slice ra L.length rc) (.int .i64 k) (.int .i64 s) (.int .i64 h) (.slice ao xs.length ca))) := Lib.hid (B4.out.trans (set5_below (by omega) _ _ _ _ _))
  have P5 : Hid ((set5 w4 (w.heap.size + 1) (.slice ra L.length rc) (.int .i64 k) (.int .i64 s) (.int .i64 h) (.slice ao xs.length ca)).ownsRow base 3 1 (.slice ao xs.length ca) xs.length ((srt xs).map (Value.int .i64))) := Lib.hid (owns_under OA4.out (B := w.heap.size) (set5_below (by omega) _ _ _ _ _) (fun g hg => (ol g hg).2))
  have Q5 : Hid ((set5 w4 (w.heap.size + 1) (.slice ra L.length rc) (.int .i64 k) (.int .i64 s) (.int .i64 h) (.slice ao xs.length ca)).ownsRow w.heap.size 23 3 (.slice ra L.length rc) L.length (cells3 L)) := Lib.hid (by
    refine owns_base (base := w3.heap.size) ?_ (by omega)
    unfold set5
    exact ownsRow_setCell_below (ownsRow_setCell_below (ownsRow_setCell_below (ownsRow_setCell_below (ownsRow_setCell_below OV4.out (show w.heap.size + 1 < _ by omega) _) (show w.heap.size + 1 < _ by omega) _) (show w.heap.size + 1 < _ by omega) _) (show w.heap.size + 1 < _ by omega) _) (show w.heap.size + 1 < _ by omega) _)
  have R5 := Lib.hid (row5 H5)
  clear H5 ol
  go_wp2
  change bodyPost _ _ _ Exit.ret _ (set5 w4 (w.heap.size + 1) (.slice ra L.length rc) (.int .i64 k) (.int .i64 s) (.int .i64 h) (.slice ao xs.length ca))
  generalize set5 w4 (w.heap.size + 1) (.slice ra L.length rc) (.int .i64 k) (.int .i64 s) (.int .i64 h) (.slice ao xs.length ca) = w5 at *
  obtain ⟨y0, y1, y2, y3, y4⟩ := R5.out.1
  clear z0 z1 z2 z3 z4 f0 f1 f2 f3 f4 s3 nx
  exact bodyPost_ret (v := .tuple #[.agg #[.slice ra L.length rc, .int .i64 k, .int .i64 s, .int .i64 h, .slice ao xs.length ca], .int .i64 0]) (by simp [results, Try.results234, go_sem, y0, y1, y2, y3, y4]) rfl ⟨_, rfl, Q5, P5, B5.out⟩
end Go.Proofs.Ytcpeailodgoilaa
namespace Go.Proofs.Ytcpeailodgoilaa
open Go.RowKit
open Go.WideMaps Go.Maps
theorem Try.laidOutK : laidOutB Try.prog = true := by kernel_rfl
theorem Try.rowK : (87 : TypeId) < Try.prog.types.size := of_decide_eq_true (by kernel_rfl)
theorem Try.cellsK : Try.prog.cellsOf 87 = 2 := by kernel_rfl
theorem Try.cellsKI : Try.prog.cellsOf 3 = 1 := by kernel_rfl
theorem Try.deepK : Try.prog.keyType 87 = true := by kernel_rfl
theorem Try.wideK : (match Try.prog.underlying 87 with | some (.array _ _) | some (.struct _) => true | _ => false) = true := by rw [Try.underlying87]
set_option maxRecDepth 100000 in
theorem Try.keyedK : Keyed Try.prog 87 := Keyed.of_law (deep_law_laid Try.laidOutK (m := 2) (by omega) Try.rowK (by kernel_rfl) Try.wideK)
/-- the literal of a key -/
def klit (p : Int × Int) : Lit := .string (keyBytes [.int .i64 p.1, .int .i64 p.2])
theorem wfK64 {a : Int} (h : I64 a) : (Lit.int .i64 a).wf = true := by
  unfold I64 at h
  simp [Lit.wf, IntKind.min, IntKind.max, IntKind.bits, IntKind.signed]
  omega
set_option maxRecDepth 100000 in
theorem keyOf_pair (p : Int × Int) (ha : I64 p.1) (hb : I64 p.2) : keyOf Try.prog 87 (.agg #[.int .i64 p.1, .int .i64 p.2]) = some (klit p) := by
  have hf : (Value.agg #[.int .i64 p.1, .int .i64 p.2]).formed Try.prog 87 = true := by simp [Value.formed, Try.underlying87, Try.cellsK]
  obtain ⟨n, hn⟩ : ∃ n, Try.prog.types.size = n + 1 := ⟨Try.prog.types.size - 1, (Nat.succ_pred_eq_of_pos (Nat.zero_lt_of_lt Try.rowK)).symm⟩
  have e1 : Try.prog.keyLits (n + 1) 3 [.int .i64 p.1] = some [.int .i64 p.1] := by
    unfold Program.keyLits
    simp [Try.underlying3, wfK64 ha]
  have e2 : Try.prog.keyLits (n + 1) 3 [.int .i64 p.2] = some [.int .i64 p.2] := by
    unfold Program.keyLits
    simp [Try.underlying3, wfK64 hb]
  have e3 : Try.prog.keyLits (Try.prog.types.size + 1) 87 [.int .i64 p.1, .int .i64 p.2] = some [.int .i64 p.1, .int .i64 p.2] := by
    rw [hn]
    unfold Program.keyLits
    simp only [Try.underlying87]
    simp [Try.cellsK, Try.cellsKI, List.range_succ, e1, e2]
  unfold keyOf
  rw [Try.underlying87]
  simp only [Try.deepK, hf, Bool.and_self, if_true]
  show (Try.prog.keyLits (Try.prog.types.size + 1) 87 [.int .i64 p.1, .int .i64 p.2]).map _ = _
  rw [e3]
  rfl
theorem klit_key (p : Int × Int) : WideAt.IsKeyLit (klit p) := trivial
def P64 (p : Int × Int) : Prop := I64 p.1 ∧ I64 p.2
theorem klit_inj {p q : Int × Int} (hp : P64 p) (hq : P64 q) (h : klit p = klit q) : p = q := by
  have a := keyOf_pair p hp.1 hp.2
  rw [h] at a
  have e := Try.keyedK.inj a (keyOf_pair q hq.1 hq.2)
  simp at e
  exact Prod.ext e.1 e.2
open Classical in
theorem atKey_fold {H : Type} (u : DataW H) (k : Lit) (z : DataW H) : ∀ (ks : List Lit) (m : DataW H), IsMap m → (∀ x ∈ ks, WideAt.IsKeyLit x) → (ks.foldl (fun m x => m.put x u) m).atKey k z = if k ∈ ks then u else m.atKey k z
  | [], m, _, _ => by simp
  | x :: r, m, hm, h => by
    rw [List.foldl_cons, atKey_fold u k z r (m.put x u) (hm.put x u) (fun y hy => h y (by simp [hy]))]
    by_cases e : k = x
    · subst e
      rw [atKey_put_same hm (h k (by simp))]
      simp
    · rw [atKey_put_other e]
      simp [e]
theorem map_keep {H : Type} {P : Program} {k : TypeId} {R : Value → Option (DataW H × List MemPlace)} {w wa : World} {b n : Nat} {D : DataW H} (h : w.ownsMap P k R b n D) (hb : Below w.heap.size w wa) : wa.ownsMap P k R b n D := by
  obtain ⟨es, clock, hk, F, hs, hD⟩ := h
  exact ⟨es, clock, heap_keep hk hb, F, hs, hD⟩
theorem plain_bool_inv {H : Type} {P : Program} {e : TypeId} (he : P.underlying e = some .bool) {v : Value} {x : Bool} {ps : List MemPlace} (h : plainElem (H := H) P e v = some (.lit (.bool x), ps)) : v = .bool x := by
  unfold plainElem at h
  rw [he] at h
  cases v <;> simp at h
  rw [h.1]
def ofStep (K : List (Int × Int)) (p : Int × Int) : List (Int × Int) := if p ∈ K then K else K ++ [p]
/-- the different ones of some pairs, in the order of their first places -/
def ofK (I : List (Int × Int)) : List (Int × Int) := I.foldl ofStep []
theorem ofK_snoc (I : List (Int × Int)) (p : Int × Int) : ofK (I ++ [p]) = ofStep (ofK I) p := by simp [ofK, List.foldl_append]
theorem ofStep_mem {K : List (Int × Int)} {p q : Int × Int} (h : q ∈ ofStep K p) : q ∈ K ∨ q = p := by
  unfold ofStep at h
  split at h
  · exact Or.inl h
  · simpa using h
theorem ofFold_mem : ∀ (I K : List (Int × Int)) (q : Int × Int), q ∈ I.foldl ofStep K → q ∈ K ∨ q ∈ I
  | [], _, _, h => Or.inl h
  | p :: r, K, q, h => by
    rcases ofFold_mem r (ofStep K p) q h with h | h
    · rcases ofStep_mem h with h | h
      · exact Or.inl h
      · exact Or.inr (by simp [h])
    · exact Or.inr (by simp [h])
theorem ofFold_len : ∀ (I K : List (Int × Int)), (I.foldl ofStep K).length ≤ K.length + I.length
  | [], _ => by simp
  | p :: r, K => by
    have h := ofFold_len r (ofStep K p)
    have e : (ofStep K p).length ≤ K.length + 1 := by
      unfold ofStep
      split <;> simp
    simp only [List.foldl_cons, List.length_cons]
    omega
def kset (K : List (Int × Int)) : DataW Unit := setOf (.lit (.bool true)) (K.map klit)
theorem kset_at {K : List (Int × Int)} {p : Int × Int} (hK : ∀ q ∈ K, P64 q) (hp : P64 p) : (kset K).atKey (klit p) (.lit (.bool false)) = .lit (.bool (decide (p ∈ K))) := by
  unfold kset setOf
  rw [atKey_fold _ _ _ _ _ isMap_empty (fun x hx => by obtain ⟨q, _, rfl⟩ := List.mem_map.1 hx; exact klit_key q)]
  by_cases e : p ∈ K
  · rw [if_pos (List.mem_map.2 ⟨p, e, rfl⟩)]
    simp [e]
  · rw [if_neg (fun h => by
      obtain ⟨q, hq, e1⟩ := List.mem_map.1 h
      exact e (klit_inj (hK q hq) hp e1 ▸ hq))]
    simp [e]
    rfl
theorem kset_snoc (K : List (Int × Int)) (p : Int × Int) : kset (K ++ [p]) = (kset K).put (klit p) (.lit (.bool true)) := by
  unfold kset
  rw [List.map_append]
  exact setOf_snoc _ _ _
/-- the blocks of Of's argument and of its result -/
structure OfS (w : World) (V : Value) (k s h : Int) (u : World) : Prop where
  d : u.heap[w.heap.size]? = some (.cells #[V, .int .i64 k, .int .i64 s, .int .i64 h] 62 (0, 0))
  z : u.heap[w.heap.size + 1]? = some (.cells #[.slice none 0 0, .int .i64 0, .int .i64 0, .int .i64 0, .slice none 0 0] 175 (0, 0))
  below : Below w.heap.size w u
  size : w.heap.size + 2 ≤ u.heap.size
theorem OfS.keep {w : World} {V : Value} {k s h : Int} {u u' : World} (t : OfS w V k s h u) (hb : Below (w.heap.size + 2) u u') : OfS w V k s h u' :=
  ⟨(hb.block _ (by omega)).trans t.d, (hb.block _ (by omega)).trans t.z, t.below.trans (hb.mono (by omega)), Nat.le_trans t.size hb.size⟩
theorem Try.zeroB (w : World) : (zeroValue 4).run Try.prog w = .ok (.bool false) w := by kernel_rfl
theorem cell2_of {w : World} {g : Nat} {a b : Value} {t : TypeId} (h : w.heap[g]? = some (.cells #[a, b] t (0, 0))) : w.cell? ⟨g, 0, none⟩ = some a ∧ w.cell? ⟨g, 1, none⟩ = some b := by
  refine ⟨?_, ?_⟩ <;> simp [World.cell?, h]
/-- the state of the loop over indices -/
structure OfL (w : World) (V : Value) (k s h : Int) (f : Int × Int → Int) (mb : Nat) (K : List (Int × Int)) (n : Nat) (av : Value) (u : World) : Prop where
  s : OfS w V k s h u
  m : u.ownsMap Try.prog 87 (plainElem Try.prog 4) mb n (kset K)
  at' : u.ownsRow (mb + 1) 3 1 av K.length ((K.map f).map (Value.int .i64))
theorem OfL.keep {w : World} {V : Value} {k s h : Int} {f : Int × Int → Int} {mb : Nat} {K : List (Int × Int)} {n : Nat} {av : Value} {u u' : World} (t : OfL w V k s h f mb K n av u) (hb : Below u.heap.size u u') : OfL w V k s h f mb K n av u' :=
  ⟨t.s.keep (hb.mono t.s.size), map_keep t.m hb, owns_below t.at' hb⟩
set_option maxRecDepth 100000 in
set_option maxHeartbeats 12800000 in
theorem iof_any (b o cap : Nat) (L : List R3) (k s h : Int) (ob oo oc : Nat) (I : List (Int × Int)) (w : World) (hb : b < w.heap.size) (hc : Hid (At3 w b o L)) (hL : Ok3 L) (hn : L.length ≤ 1000) (hn0 : L.length ≠ 0)
    (hob : ob < w.heap.size) (hI : ∀ (j : Nat) (p : Int × Int), I[j]? = some p → ∃ iv, w.cell? ⟨ob, oo + j, none⟩ = some iv ∧ Ri w iv [p.1, p.2]) (hl : I.length ≤ 5000) (h64 : ∀ p ∈ I, P64 p)
    (hcp : cpE L k s h = 0) (hin : ∀ p ∈ I, dposB L k s h [p.1, p.2] = true) :
    Calls Try.prog 184 #[.agg #[.slice (some ⟨b, o, none⟩) L.length cap, .int .i64 k, .int .i64 s, .int .i64 h], .slice (some ⟨ob, oo, none⟩) I.length oc] w fun e w' => ∃ v' av, e = .returned (.tuple #[.agg #[v', .int .i64 k, .int .i64 s, .int .i64 h, av], .int .i64 0]) ∧
      Hid (w'.ownsRow w.heap.size 23 3 v' L.length (cells3 L)) ∧ Hid (w'.ownsRow w.heap.size 3 1 av (ofK I).length ((srt ((ofK I).map (fun p => dposN L k s h [p.1, p.2]))).map (Value.int .i64))) ∧ Below w.heap.size w w' := by
  obtain ⟨f, hf⟩ : ∃ f : Int × Int → Int, f = fun p => dposN L k s h [p.1, p.2] := ⟨_, rfl⟩
  rw [← hf]
  have HF : Hid (∀ p : Int × Int, dposN L k s h [p.1, p.2] = f p) := Lib.hid (fun p => by rw [hf])
  have HIN := Lib.hid hin
  have H64 := Lib.hid h64
  have HI := Lib.hid hI
  have HL := Lib.hid hL
  have RD0 : Hid (Rd w (.slice (some ⟨b, o, none⟩) L.length cap) L) := Lib.hid ⟨_, _, rfl, Or.inr ⟨b, o, rfl, hb, hc.out⟩⟩
  have KL : Hid (∀ j, (ofK (I.take j)).length ≤ j) := Lib.hid (fun j => by have := ofFold_len (I.take j) []; simp only [List.length_nil, List.length_take] at this; unfold ofK; omega)
  have KM : Hid (∀ j, ∀ q ∈ ofK (I.take j), P64 q) := Lib.hid (fun j q hq => by
    rcases ofFold_mem _ _ q hq with h | h
    · cases h
    · exact h64 q (List.mem_of_mem_take h))
  have CP := Lib.hid hcp
  have nx : ¬ (20000 : Int) < (I.length : Int) := by omega
  have hmm := @run_makeMap Try.prog
  obtain ⟨i0, hi0, hz0, hz1, hz2⟩ := info_parts Try.infoInt
  have a1 : (w.alloc (.cells #[.slice (some ⟨b, o, none⟩) L.length cap, .int .i64 k, .int .i64 s, .int .i64 h] 62)).heap[w.heap.size]? = some (.cells #[.slice (some ⟨b, o, none⟩) L.length cap, .int .i64 k, .int .i64 s, .int .i64 h] 62 (0, 0)) := World.alloc_heap_new w _
  have T0 : Hid (OfS w (.slice (some ⟨b, o, none⟩) L.length cap) k s h ((w.alloc (.cells #[.slice (some ⟨b, o, none⟩) L.length cap, .int .i64 k, .int .i64 s, .int .i64 h] 62)).alloc (.cells #[.slice none 0 0, .int .i64 0, .int .i64 0, .int .i64 0, .slice none 0 0] 175))) := Lib.hid ⟨(Below.heap_alloc _ _ _ (by simp)).trans a1, (by
    have := World.alloc_heap_new (w.alloc (.cells #[.slice (some ⟨b, o, none⟩) L.length cap, .int .i64 k, .int .i64 s, .int .i64 h] 62)) (.cells #[.slice none 0 0, .int .i64 0, .int .i64 0, .int .i64 0, .slice none 0 0] 175)
    rwa [World.size_alloc] at this), (below_new _ _).alloc (by simp) _, by simp⟩
  clear a1 hf hin h64 hI hL hcp
  go_enter Try.func184, Try.ntmps184
  go_upto_region 1 with fail
  generalize ((w.alloc (.cells #[.slice (some ⟨b, o, none⟩) L.length cap, .int .i64 k, .int .i64 s, .int .i64 h] 62)).alloc (.cells #[.slice none 0 0, .int .i64 0, .int .i64 0, .int .i64 0, .slice none 0 0] 175)) = u0 at *
  obtain ⟨d0, d1, d2, d3⟩ := row4 T0.out.d
  go_wp2_with fail
  refine (checkParent_any _ L k s h _ (RD0.out.keep T0.out.below) HL.out).mono ?_
  rintro e u1 ⟨rfl, hq⟩
  rw [CP.out]
  have T1 := Lib.hid (T0.out.keep (hq.mono T0.out.size))
  clear hq T0 d0 d1 d2 d3
  go_upto_region 8 with fail
  have MB := Lib.hid T1.out.size
  have T2 : Hid (OfL w (.slice (some ⟨b, o, none⟩) L.length cap) k s h f u1.heap.size [] 0 (.slice none 0 0) (u1.alloc (.map #[] 0))) := Lib.hid ⟨T1.out.keep ((below_new _ _).mono T1.out.size), World.ownsMap_made _ _ _ _, World.ownsRow_nil _ _ _ _⟩
  generalize u1.alloc (.map #[] 0) = u2 at *
  generalize u1.heap.size = mb at *
  clear T1
  go_wp2_with fail
  go_loopg [8, 10, 11, 12, 13, 27] (I.length + 1) (fun gh v8 _ _ _ _ v27 wr => ∃ j : Nat, v27 = .int .i64 j ∧ (j ≤ I.length ∧ I.length - j < gh) ∧ Hid (OfL w (.slice (some ⟨b, o, none⟩) L.length cap) k s h f mb (ofK (I.take j)) j v8 wr))
  case atStart => exact ⟨0, rfl, ⟨by omega, by omega⟩, T2⟩
  case round =>
    obtain ⟨j, rfl, ⟨j0, jg⟩, T⟩ := hrel
    have KG := Lib.hid jg
    clear jg T2
    obtain ⟨d0, d1, d2, d3⟩ := row4 T.out.s.d
    by_cases hj : j < I.length
    · obtain ⟨p, hp⟩ : ∃ p, I[j]? = some p := ⟨I[j], List.getElem?_eq_getElem hj⟩
      obtain ⟨iv, hiv, hri⟩ := HI.out j p hp
      have PM : Hid (p ∈ I) := Lib.hid (List.mem_of_getElem? hp)
      have TK : Hid (I.take (j + 1) = I.take j ++ [p]) := Lib.hid (by rw [List.take_add_one, hp]; rfl)
      have ci : wr.cell? ⟨ob, oo + j, none⟩ = some iv := (T.out.s.below.cell (p := ⟨ob, oo + j, none⟩) hob).trans hiv
      have RI : Hid (Ri wr iv [p.1, p.2]) := Lib.hid (hri.keep T.out.s.below)
      obtain ⟨ai, cv, rfl, _⟩ := hri
      have jw : IntKind.i64.wrap ((j : Int) + 1) = (j : Int) + 1 := IntWalk.i64_in _ (by omega)
      have N1 : Hid (Ok1 [p.1, p.2]) := Lib.hid (fun x hx => by have q := H64.out p PM.out; simp at hx; rcases hx with rfl | rfl <;> first | exact q.1 | exact q.2)
      clear hiv hp
      go_wp2_with fail
      refine (Dpos_any _ L k s h _ [p.1, p.2] _ (RD0.out.keep T.out.s.below) HL.out RI.out N1.out).mono ?_
      rintro e wa ⟨rfl, hq⟩
      rw [HIN.out p PM.out, HF.out p]
      have Ta := Lib.hid (T.out.keep hq)
      have RIa := Lib.hid (RI.out.keep hq)
      clear hq T RI d0 d1 d2 d3 ci N1
      go_wp2_with fail
      refine (pair_any _ p.1 p.2 _ RIa.out).mono ?_
      rintro e wb ⟨rfl, hq⟩
      have Tb := Lib.hid (Ta.out.keep hq)
      clear hq Ta RIa
      go_upto_region 15 with fail
      have H2 := cell2_of (World.alloc_heap_new wb (.cells #[.int .i64 p.1, .int .i64 p.2] 87))
      have Tc : Hid (OfL w (.slice (some ⟨b, o, none⟩) L.length cap) k s h f mb (ofK (I.take j)) j _ (wb.alloc (.cells #[.int .i64 p.1, .int .i64 p.2] 87))) := Lib.hid (Tb.out.keep (below_new _ _))
      generalize wb.alloc (.cells #[.int .i64 p.1, .int .i64 p.2] 87) = wc at *
      obtain ⟨e0, e1⟩ := H2
      clear Tb
      have hkey := keyOf_pair p (H64.out p PM.out).1 (H64.out p PM.out).2
      obtain ⟨v, ps, hrun, hv⟩ := Tc.out.m.lookup Try.keyedK (t := 215) Try.underlying215 (z := .bool false) (Try.zeroB _) (plainElem_bool Try.underlying4 false) hkey
      rw [kset_at (KM.out j) (H64.out p PM.out)] at hv
      obtain rfl := plain_bool_inv Try.underlying4 hv
      clear hv
      by_cases hm : p ∈ ofK (I.take j)
      · have K1 : Hid (ofK (I.take (j + 1)) = ofK (I.take j)) := Lib.hid (by rw [TK.out, ofK_snoc]; exact if_pos hm)
        rw [decide_eq_true hm] at hrun
        go_wp2_with fail
        go_roundg (I.length - j)
        case measure => exact KG.out
        case rel => exact ⟨j + 1, by go_num, ⟨by omega, by omega⟩, Lib.hid (by rw [K1.out]; exact ⟨Tc.out.s, Tc.out.m.mono (Nat.le_succ _), Tc.out.at'⟩)⟩
      · have K1 : Hid (ofK (I.take (j + 1)) = ofK (I.take j) ++ [p]) := Lib.hid (by rw [TK.out, ofK_snoc]; exact if_neg hm)
        rw [decide_eq_false hm] at hrun
        have s13 := Tc.out.s.size
        go_upto_region 17 with (first | (at_mapUpdate; refine wpList_mapUpdate_own _ rfl _ _ _ 215 rfl 87 4 Try.keyedK Try.underlying215 (plainElem (H := Unit) Try.prog 4) mb j _ rfl Tc.out.m (by unfold maxLen; omega) _ _ _ rfl rfl hkey _ [] (plainElem_bool Try.underlying4 true) ?_; intro w1 hown1 hgrow1) | fail)
        have Te := Lib.hid (Tc.out.s.keep ((Below.refl _ _).grown hgrow1 s13 (fun g hg => by cases hg; exact MB.out)))
        have row1 := Lib.hid (Tc.out.at'.kept hgrow1 (Or.inr (row_ne_low Tc.out.at' (Nat.lt_succ_self _)).symm))
        have M1 := Lib.hid hown1
        have lo : mb < w1.heap.size := Nat.lt_of_lt_of_le Tc.out.m.lt hgrow1.size
        have kl := KL.out j
        clear hown1 hgrow1 hrun hkey Tc s13 e0 e1
        go_wp2_with (first | (at_builtin; refine wpList_append_own _ rfl (.tmp 48) (.tmp 50) 48 rfl (mb + 1) 3 i0 (.int .i64 0) 1 8 Try.underlying48 hi0 hz0 hz1 hz2 rfl (by decide) _ (ofK (I.take j)).length (((ofK (I.take j)).map f).map (Value.int .i64)) rfl (row1.out.alloc _) ⟨w1.heap.size, 0, none⟩ 1 1 [.int .i64 (f p)] rfl rfl (cell_one_new _ _ _) (ints_oneCell .i64 [_]) (by unfold maxLen; omega) (by omega) (by simp; omega) ?_; intro v' w2 own2 grow2 hnil2) | fail)
        go_roundg (I.length - j)
        case measure => exact KG.out
        case rel => exact ⟨j + 1, by go_num, ⟨by omega, by omega⟩, Lib.hid (by
          rw [K1.out]
          refine ⟨(Te.out.keep ((below_new _ _).mono Te.out.size)).keep ((Below.refl _ _).grown grow2 (by have := Te.out.size; simp; omega) (fun g hg => by have := (row1.out.lt g hg).1; have := MB.out; omega)), ?_, ?_⟩
          · rw [kset_snoc]
            exact (M1.out.alloc _).kept grow2 (row_ne_low row1.out (Nat.lt_succ_self _))
          · simpa using own2)⟩
    · have E : I.take j = I := List.take_of_length_le (by omega)
      rw [E] at T
      have ML : Hid (mb < wr.heap.size) := Lib.hid T.out.m.lt
      have mb0 := MB.out
      go_wp2_with fail
      refine (isorted_any b o cap L k s h _ ((ofK I).map f) (mb + 1) _ ML.out (by omega) (Lib.hid (hc.out.under T.out.s.below hb)) hn (Lib.hid (by simpa using T.out.at')) (by have := KL.out I.length; rw [List.take_length] at this; rw [List.length_map]; omega)).mono ?_
      rintro e wz ⟨v', rfl, ow, oa, hq⟩
      have Tz := Lib.hid (T.out.s.keep (hq.mono (by omega)))
      have OW := Lib.hid ow.out
      have OA : Hid (wz.ownsRow (mb + 1) 3 1 _ (ofK I).length _) := Lib.hid (by simpa only [List.length_map] using oa.out)
      obtain ⟨ra, rc, rfl⟩ := owns_slice OW.out
      obtain ⟨aa, ca, rfl⟩ := owns_slice OA.out
      clear ow oa hq d0 d1 d2 d3
      obtain ⟨⟨z0, z1, z2, z3, z4⟩, fz⟩ := row5 Tz.out.z
      have f0 := fz 0
      have f1 := fz 1
      have f2 := fz 2
      have f3 := fz 3
      have f4 := fz 4
      have ml := ML.out
      have H5 := set5_at (a' := .slice ra L.length rc) (b' := .int .i64 k) (c' := .int .i64 s) (d' := .int .i64 h) (e' := .slice aa (ofK I).length ca) Tz.out.z
      have B5 : Hid (Below w.heap.size w (set5 wz (w.heap.size + 1) (.slice ra L.length rc) (.int .i64 k) (.int .i64 s) (.int .i64 h) (.slice aa (ofK I).length ca))) := Lib.hid (Tz.out.below.trans (set5_below (by omega) _ _ _ _ _))
      have P5 : Hid ((set5 wz (w.heap.size + 1) (.slice ra L.length rc) (.int .i64 k) (.int .i64 s) (.int .i64 h) (.slice aa (ofK I).length ca)).ownsRow w.heap.size 3 1 (.slice aa (ofK I).length ca) (ofK I).length ((srt ((ofK I).map f)).map (Value.int .i64))) := Lib.hid (by
        refine owns_base (base := mb + 1) ?_ (by omega)
        unfold set5
        exact ownsRow_setCell_below (ownsRow_setCell_below (ownsRow_setCell_below (ownsRow_setCell_below (ownsRow_setCell_below OA.out (show w.heap.size + 1 < _ by omega) _) (show w.heap.size + 1 < _ by omega) _) (show w.heap.size + 1 < _ by omega) _) (show w.heap.size + 1 < _ by omega) _) (show w.heap.size + 1 < _ by omega) _)
      have Q5 : Hid ((set5 wz (w.heap.size + 1) (.slice ra L.length rc) (.int .i64 k) (.int .i64 s) (.int .i64 h) (.slice aa (ofK I).length ca)).ownsRow w.heap.size 23 3 (.slice ra L.length rc) L.length (cells3 L)) := Lib.hid (by
        refine owns_base (base := wr.heap.size) ?_ (by omega)
        unfold set5
        exact ownsRow_setCell_below (ownsRow_setCell_below (ownsRow_setCell_below (ownsRow_setCell_below (ownsRow_setCell_below OW.out (show w.heap.size + 1 < _ by omega) _) (show w.heap.size + 1 < _ by omega) _) (show w.heap.size + 1 < _ by omega) _) (show w.heap.size + 1 < _ by omega) _) (show w.heap.size + 1 < _ by omega) _)
      have R5 := Lib.hid (row5 H5)
      clear H5 fz E
      go_wp2
      change bodyPost _ _ _ Exit.ret _ (set5 wz (w.heap.size + 1) (.slice ra L.length rc) (.int .i64 k) (.int .i64 s) (.int .i64 h) (.slice aa (ofK I).length ca))
      generalize set5 wz (w.heap.size + 1) (.slice ra L.length rc) (.int .i64 k) (.int .i64 s) (.int .i64 h) (.slice aa (ofK I).length ca) = w5 at *
      obtain ⟨y0, y1, y2, y3, y4⟩ := R5.out.1
      clear z0 z1 z2 z3 z4 f0 f1 f2 f3 f4 nx ml mb0
      exact bodyPost_ret (v := .tuple #[.agg #[.slice ra L.length rc, .int .i64 k, .int .i64 s, .int .i64 h, .slice aa (ofK I).length ca], .int .i64 0]) (by simp [results, Try.results184, go_sem, y0, y1, y2, y3, y4]) rfl ⟨_, _, rfl, Q5, P5, B5.out⟩
end Go.Proofs.Ytcpeailodgoilaa
