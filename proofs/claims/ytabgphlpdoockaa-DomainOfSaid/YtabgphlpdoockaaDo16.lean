/-
  Part 16: DKit2, RDI, RDO.
-/
import Derived.Test.YtabgphlpdoockaaDo7
import Derived.Test.YtabgphlpdoockaaDo10
import Derived.Test.YtabgphlpdoockaaDo13
import Derived.Test.YtabgphlpdoockaaDo14
import Derived.Test.YtabgphlpdoockaaDo15
import Derived.BigQuiet
import Derived.Carry
import Derived.Deep.AppendLies
import Derived.Deep.CutBlock
import Derived.Deep.DeepCutAuto
import Derived.Deep.DrawnRows
import Derived.Deep.LoopGhost
import Derived.Deep.QuietTactic
import Derived.Deep.RegionHeld3
import Derived.Deep.RegionWith
import Derived.Deep.Slices
import Derived.Deep.Strs
import Derived.Lib.Hide
import Derived.WalkKit
import Derived.WalkLawsBesides
import Derived.WalkSpells
namespace Go.Proofs.Ytabgphlpdoockaa
open Go.ChangeShapes Go.WideShapes Go.ChangeAt Go.RowKit Go.Joins
section
variable {H : Type} {enc : TypeId × Value → H} {w : World} {base : Nat} {held : Bool}
set_option maxRecDepth 100000 in
theorem open_rangesD {r : Reach} {b0 : Nat} {v : Value} {d : DataW H} {p : List MemPlace} (hv : Value.okWide Try.prog w r b0 40 v) (h : DataW.Trod enc Try.prog w base (fun _ => true) held 40 v d p) :
    ∃ L : List R3, Rd w v L ∧ Ok3 L ∧ ∀ a n c, v = .slice a n c → n ≤ c := by
  obtain ⟨a, len, cap, rfl⟩ := okWide_slice Try.underlying40 hv
  obtain ⟨fuel, hf⟩ := h
  exact open_ranges hf
set_option maxRecDepth 100000 in
theorem open_intsD {r : Reach} {b0 : Nat} {v : Value} {d : DataW H} {p : List MemPlace} (hv : Value.okWide Try.prog w r b0 48 v) (h : DataW.Trod enc Try.prog w base (fun _ => true) held 48 v d p) :
    ∃ L : List Int, Ri w v L ∧ Ok1 L := by
  obtain ⟨a, len, cap, rfl⟩ := okWide_slice Try.underlying48 hv
  obtain ⟨fuel, hf⟩ := h
  replace hf : DataW.trod enc Try.prog w base (fun _ => true) held fuel 48 [Value.slice a len cap] = some (d, p) := hf
  rcases Deep.open_slice1 Try.underlying48 Try.cellsInt hf with ⟨e, _⟩ | ⟨a, len, cap, m, n, V, D, Pl, e, hb, hl, hm, hmm, _, hx⟩
  · simp at e
    obtain ⟨rfl, rfl, rfl⟩ := e
    exact ⟨[], ⟨none, 0, rfl, Or.inl rfl⟩, fun x hx => by cases hx⟩
  · simp at e
    obtain ⟨rfl, rfl, rfl⟩ := e
    have hm' : m = cap := by simpa using hmm
    subst hm'
    have each : ∀ i, i < m → ∃ q : Int, w.cell? (a.add i) = some (.int .i64 q) ∧ I64 q := by
      intro i hi
      obtain ⟨h1, h2⟩ := hx i hi
      obtain ⟨q, e0, _, wq⟩ := DataW.trod_int Try.underlying3 h2
      simp at e0
      exact ⟨q, by rw [h1, e0], wf_i64 wq⟩
    obtain ⟨q, hq⟩ := Deep.choose_lt each
    have hlen : ((List.range len).map q).length = len := by simp
    refine ⟨(List.range len).map q, ⟨some a, m, by rw [hlen], ?_⟩, fun x hx => ?_⟩
    · by_cases z : len = 0
      · exact Or.inl (by rw [hlen]; exact z)
      · right
        have h0 := (hq 0 (by omega)).1
        obtain ⟨b, o, rfl⟩ := spot_of_cells h0
        have ad : ∀ k : Nat, (⟨b, o, none⟩ : Addr).add k = ⟨b, o + k, none⟩ := fun k => by
          by_cases k0 : k = 0 <;> simp [Addr.add, k0]
        refine ⟨b, o, rfl, ?_, fun j x hx => ?_⟩
        · rw [ad] at h0
          exact World.block_lt_of_cell? w _ h0
        · have hj : j < len := by have := (List.getElem?_eq_some_iff.1 hx).1; simpa using this
          have ex : x = q j := by
            rw [List.getElem?_map, List.getElem?_range hj] at hx
            simpa using hx.symm
          subst ex
          have := (hq j (by omega)).1
          rw [ad] at this
          exact this
    · obtain ⟨j, hj, rfl⟩ := List.mem_map.1 hx
      exact (hq j (by have := List.mem_range.1 hj; omega)).2
theorem back_argL {H : Type} {enc : TypeId × Value → H} {W W' : World} {v : Value} {d : DataW H} {ps : List MemPlace} (h : DataW.Trod enc Try.prog W 0 (fun _ => true) true 40 v d ps) (hb : Below W.heap.size W W')
    (hlt : ∀ x ∈ ps, x.block < W.heap.size) (sp : Nat → Bool) (hs : ∀ x ∈ ps, sp x.block = true) : DataW.Trod enc Try.prog W' 0 sp true 40 v d ps :=
  WideElems.Trod_stays Try.laidOutD (by kernel_rfl) (of_decide_eq_true (by kernel_rfl)) h (fun x hx => hb.same (hlt x hx)) hs
theorem back_argN {H : Type} {enc : TypeId × Value → H} {W W' : World} {v : Value} {d : DataW H} {ps : List MemPlace} (h : DataW.Trod enc Try.prog W 0 (fun _ => true) true 48 v d ps) (hb : Below W.heap.size W W')
    (hlt : ∀ x ∈ ps, x.block < W.heap.size) (sp : Nat → Bool) (hs : ∀ x ∈ ps, sp x.block = true) : DataW.Trod enc Try.prog W' 0 sp true 48 v d ps :=
  WideElems.Trod_stays Try.laidOutD (by kernel_rfl) (of_decide_eq_true (by kernel_rfl)) h (fun x hx => hb.same (hlt x hx)) hs
end
end Go.Proofs.Ytabgphlpdoockaa
namespace Go.Proofs.Ytabgphlpdoockaa
open Go.RowKit
open Go.Op
/-- the blocks of the reference's Intersect: the two domains, the result, the domain that grows -/
structure QSt (w : World) (v : Value) (k s h : Int) (v' : Value) (k' s' h' : Int) (ob : Nat) (X : List R3) (ao : Option Addr) (cap : Nat) (wr : World) : Prop where
  below : Below w.heap.size w wr
  a : Blk w.heap.size v (.int .i64 k) (.int .i64 s) (.int .i64 h) wr
  b : Blk (w.heap.size + 1) v' (.int .i64 k') (.int .i64 s') (.int .i64 h') wr
  z : Blk (w.heap.size + 1 + 1) (.slice none 0 0) (.int .i64 0) (.int .i64 0) (.int .i64 0) wr
  r : Blk ob (.slice ao X.length cap) (.int .i64 k) (.int .i64 s) (.int .i64 h) wr
  own : wr.ownsRow (ob + 1) 23 3 (.slice ao X.length cap) X.length (cells3 X)
  lt : w.heap.size + 1 + 1 < ob
theorem QSt.under {w : World} {v : Value} {k s h : Int} {v' : Value} {k' s' h' : Int} {ob : Nat} {X : List R3} {ao : Option Addr} {cap : Nat} {wa wb : World} {B : Nat} (t : QSt w v k s h v' k' s' h' ob X ao cap wa) (hb : Below B wa wb) (hB : ob < B)
    (hr : ∀ g, (Value.slice ao X.length cap).ownBlock = some g → g < B) : QSt w v k s h v' k' s' h' ob X ao cap wb :=
  ⟨t.below.trans (hb.mono (by have := t.lt; omega)), blk_under t.a hb (by have := t.lt; omega), blk_under t.b hb (by have := t.lt; omega), blk_under t.z hb (by have := t.lt; omega), blk_under t.r hb hB, owns_under t.own hb hr, t.lt⟩
theorem QSt.keep {w : World} {v : Value} {k s h : Int} {v' : Value} {k' s' h' : Int} {ob : Nat} {X : List R3} {ao : Option Addr} {cap : Nat} {wa wb : World} (t : QSt w v k s h v' k' s' h' ob X ao cap wa) (hb : Below wa.heap.size wa wb) : QSt w v k s h v' k' s' h' ob X ao cap wb :=
  t.under hb t.r.size (fun g hg => (t.own.lt g hg).2)
/-- a range more -/
theorem QSt.add {w : World} {v : Value} {k s h : Int} {v' : Value} {k' s' h' : Int} {ob : Nat} {X : List R3} {ao : Option Addr} {cap : Nat} {wa wb : World} (t : QSt w v k s h v' k' s' h' ob X ao cap wa) {ao' : Option Addr} {cap' : Nat}
    {x : R3} (own : wb.ownsRow (ob + 1) 23 3 (.slice ao' (X.length + 1) cap') (X.length + 1) (cells3 X ++ cells3 [x])) (grow : wa.grownBy wb (Value.slice ao X.length cap).ownBlock) :
    QSt w v k s h v' k' s' h' ob (X ++ [x]) ao' cap' (wb.setCell ⟨ob, 0, none⟩ (.slice ao' (X.length + 1) cap')) := by
  have B3 : Below (ob + 1) wa wb := (Below.refl _ _).grown grow (by have := t.r.size; omega) (fun g hg => (t.own.lt g hg).1)
  have e : (X ++ [x]).length = X.length + 1 := by simp
  have l := t.lt
  refine ⟨(t.below.trans (B3.mono (by omega))).setCell (by simp; omega) _, blk_else (blk_under t.a B3 (by omega)) (by omega) _, blk_else (blk_under t.b B3 (by omega)) (by omega) _, blk_else (blk_under t.z B3 (by omega)) (by omega) _, ?_, ?_, l⟩
  · rw [e]; exact blk_first (blk_under t.r B3 (by omega)) _
  · rw [e, cells3_append]
    exact ownsRow_setCell_below own (by simp) _
end Go.Proofs.Ytabgphlpdoockaa
namespace Go.Proofs.Ytabgphlpdoockaa
open Go.RowKit
set_option maxRecDepth 100000 in
theorem rup_any (l h s : Int) (w : World) (hk : chk l h s = 0) :
    Calls Try.prog 141 #[.agg #[.int .i64 l, .int .i64 h, .int .i64 s]] w fun e w' => e = .returned (.agg #[.int .i64 l, .int .i64 h, .int .i64 (magA s)]) ∧ Below w.heap.size w w' := by
  have b := chk_bounds hk
  clear hk
  by_cases c : s < 0
  · have E : Hid (magA s = -s) := Lib.hid (magA_neg c)
    have jw : IntKind.i64.wrap (-s) = -s := IntWalk.i64_in _ (by omega)
    clear b
    go_enter Try.func141, Try.ntmps141
    go_wp2
    rw [E.out]
    refine bodyPost_ret (v := .agg #[.int .i64 l, .int .i64 h, .int .i64 (-s)]) (by simp [results, Try.results141, go_sem, *]) rfl ⟨rfl, ?_⟩
    repeat (first | exact Below.refl _ _ | refine Below.alloc ?_ (by simp; try omega) _ | refine Below.setCell ?_ (by simp; try omega) _)
  · have E : Hid (magA s = s) := Lib.hid (magA_pos (by omega))
    clear b
    go_enter Try.func141, Try.ntmps141
    go_wp2
    rw [E.out]
    refine bodyPost_ret (v := .agg #[.int .i64 l, .int .i64 h, .int .i64 s]) (by simp [results, Try.results141, go_sem, *]) rfl ⟨rfl, ?_⟩
    repeat (first | exact Below.refl _ _ | refine Below.alloc ?_ (by simp; try omega) _ | refine Below.setCell ?_ (by simp; try omega) _)
/-- the blocks of the reference's Of: the result, the domain that grows -/
structure OSt2 (w : World) (v : Value) (wr : World) : Prop where
  below : Below w.heap.size w wr
  z : Blk w.heap.size (.slice none 0 0) (.int .i64 0) (.int .i64 0) (.int .i64 0) wr
  r : Blk (w.heap.size + 1) v (.int .i64 0) (.int .i64 0) (.int .i64 0) wr
theorem OSt2.under {w : World} {v : Value} {wa wb : World} {B : Nat} (t : OSt2 w v wa) (hb : Below B wa wb) (h : w.heap.size + 1 < B) : OSt2 w v wb :=
  ⟨t.below.trans (hb.mono (by omega)), blk_under t.z hb (by omega), blk_under t.r hb h⟩
theorem OSt2.keep {w : World} {v : Value} {wa wb : World} (t : OSt2 w v wa) (hb : Below wa.heap.size wa wb) : OSt2 w v wb := t.under hb t.r.size
theorem OSt2.new (w : World) (t : TypeId) : OSt2 w (.slice none 0 0) ((w.alloc (.cells #[.slice none 0 0, .int .i64 0, .int .i64 0, .int .i64 0] t)).alloc (.cells #[.slice none 0 0, .int .i64 0, .int .i64 0, .int .i64 0] t)) := by
  have h := res44 (w := w) (t := t) (t' := t) (a := .slice none 0 0) (b := .int .i64 0) (c := .int .i64 0) (d := .int .i64 0) (a' := .slice none 0 0) (b' := .int .i64 0) (c' := .int .i64 0) (d' := .int .i64 0) (Below.refl _ _)
  exact ⟨h.1, h.2.1, h.2.2⟩
theorem OSt2.store {w : World} {v : Value} {wa : World} (t : OSt2 w v wa) (u : Value) : OSt2 w u (wa.setCell ⟨w.heap.size + 1, 0, none⟩ u) :=
  ⟨t.below.setCell (by simp) _, blk_else t.z (by omega) _, blk_first t.r _⟩
set_option maxRecDepth 100000 in
set_option maxHeartbeats 6400000 in
theorem rDof_any (v : Value) (L : List R3) (w : World) (hr : Rd w v L) (hL : Ok3 L) :
    Calls Try.prog 61 #[v] w (DOfRet L w) := by
  obtain ⟨ao, cap, rfl, hc⟩ := hr
  have N2 := Lib.hid (OSt2.new w 62)
  have bad : ¬ (L.length = 1 ∨ L.length = 2) → Calls Try.prog 61 #[.slice ao L.length cap] w (DOfRet L w) := fun nr => by
    have E : Hid (ofErr L = 5) := Lib.hid (by unfold ofErr; rw [if_neg (by unfold rankB; simp; omega)])
    by_cases q1 : L.length < 1
    · have q1' : decide ((L.length : Int) < 1) = true := by simp; omega
      have q1'' : (L.length : Int) < 1 := by omega
      clear q1 hc hL nr
      go_enter Try.func61, Try.ntmps61
      go_wp2
      refine bodyPost_ret (v := .tuple #[.agg #[.slice none 0 0, .int .i64 0, .int .i64 0, .int .i64 0], .int .i64 5]) (by simp [results, Try.results61, go_sem, *]) rfl ⟨_, _, rfl, ?_, Lib.hid ⟨E.out.symm, Or.inr ⟨by omega, rfl⟩⟩⟩
      repeat (first | exact Below.refl _ _ | refine Below.alloc ?_ (by simp; try omega) _ | refine Below.setCell ?_ (by simp; try omega) _)
    · have q2 : 2 < L.length := by omega
      have q1' : decide ((L.length : Int) < 1) = false := by simp; omega
      have q2' : decide ((L.length : Int) > 2) = true := by simp; omega
      have q1'' : ¬ (L.length : Int) < 1 := by omega
      have q2'' : 2 < (L.length : Int) := by omega
      clear q1 q2 hc hL nr
      go_enter Try.func61, Try.ntmps61
      go_wp2
      refine bodyPost_ret (v := .tuple #[.agg #[.slice none 0 0, .int .i64 0, .int .i64 0, .int .i64 0], .int .i64 5]) (by simp [results, Try.results61, go_sem, *]) rfl ⟨_, _, rfl, ?_, Lib.hid ⟨E.out.symm, Or.inr ⟨by omega, rfl⟩⟩⟩
      repeat (first | exact Below.refl _ _ | refine Below.alloc ?_ (by simp; try omega) _ | refine Below.setCell ?_ (by simp; try omega) _)
  by_cases nr : L.length = 1 ∨ L.length = 2
  · clear bad
    have q1' : decide ((L.length : Int) < 1) = false := by simp; omega
    have q2' : decide ((L.length : Int) > 2) = false := by simp; omega
    have q1'' : ¬ (L.length : Int) < 1 := by omega
    have q2'' : ¬ 2 < (L.length : Int) := by omega
    have EE : Hid (ofErr L = firstE L) := Lib.hid (by unfold ofErr; rw [if_pos (by unfold rankB; simpa using nr)])
    obtain ⟨b, o, rfl, hb, hcell⟩ := hc.resolve_left (by omega)
    have CL := Lib.hid hcell
    have HN := Lib.hid nr
    have HL := Lib.hid hL
    clear hcell nr hL hc
    obtain ⟨i0, hi, hz0, hz1, hz2⟩ := info_parts Try.infoRange
    go_enter Try.func61, Try.ntmps61
    go_upto_region 4 with fail
    generalize (w.alloc (.cells #[.slice none 0 0, .int .i64 0, .int .i64 0, .int .i64 0] 62)).alloc (.cells #[.slice none 0 0, .int .i64 0, .int .i64 0, .int .i64 0] 62) = w2 at *
    clear q1' q2' q1'' q2''
    go_wp2_with fail
    go_loopg [5, 6] (L.length + 1) (fun gh v5 _ wr => ∃ (X : List R3) (ro : Option Addr) (rc : Nat), v5 = .int .i64 X.length ∧ (X.length ≤ L.length ∧ L.length - X.length < gh) ∧ Hid (X = (L.take X.length).map upR ∧ ∀ (i : Nat) (y : R3), i < X.length → L[i]? = some y → chk y.1 y.2.1 y.2.2 = 0) ∧ Hid (OSt2 w (.slice ro X.length rc) wr) ∧ Hid (wr.ownsRow (w.heap.size + 2) 23 3 (.slice ro X.length rc) X.length (cells3 X)))
    case atStart => exact ⟨[], none, 0, rfl, ⟨by simp, by simp⟩, Lib.hid ⟨by simp, fun i y h => by simp at h⟩, N2, Lib.hid (World.ownsRow_nil _ _ _ _)⟩
    case round =>
      obtain ⟨X, ro, rc, rfl, ⟨j0, jg⟩, hz, E1, O1⟩ := hrel
      have KG := Lib.hid jg
      clear jg
      by_cases hj : X.length < L.length
      · have n2 : (L.length : Int) ≤ 2 := by have := HN.out; omega
        have jw : IntKind.i64.wrap ((X.length : Int) + 1) = (X.length : Int) + 1 := IntWalk.i64_in _ (by omega)
        obtain ⟨x, hx⟩ : ∃ x, L[X.length]? = some x := ⟨L[X.length], List.getElem?_eq_getElem hj⟩
        have PX := Lib.hid (CL.out _ x hx)
        have ox := HL.out x (List.mem_of_getElem? hx)
        have FX := Lib.hid hx
        have p0 := (E1.out.below.cell (p := ⟨b, o + X.length * 3, none⟩) hb).trans PX.out.1
        have p1 := (E1.out.below.cell (p := ⟨b, o + X.length * 3 + 1, none⟩) hb).trans PX.out.2.1
        have p2 := (E1.out.below.cell (p := ⟨b, o + X.length * 3 + 2, none⟩) hb).trans PX.out.2.2
        clear hx
        go_wp2_with fail
        refine (refCheck_any x.1 x.2.1 x.2.2 _ ox.1 ox.2.1 ox.2.2).mono ?_
        rintro e w3 ⟨rfl, hb3⟩
        have E3 := Lib.hid (E1.out.keep hb3)
        have O3 := Lib.hid (owns_below O1.out hb3)
        clear hb3 E1 O1 p0 p1 p2
        by_cases c : chk x.1 x.2.1 x.2.2 = 0
        · have c' : (chk x.1 x.2.1 x.2.2 != 0) = false := by simp [c]
          have CK := Lib.hid c
          clear c
          go_upto_region 10 with fail
          clear c'
          refine wp_region_held_drew (S := (fun w' => Below w.heap.size w w' ∧ w.heap.size + 1 < w'.heap.size)) (by kernel_rfl) ⟨to_drew E3.out.below, E3.out.r.size⟩ (fun hHeld => ?_)
          have T := E3.out.keep (to_drew (Below.refl _ _))
          have OW := owns_below O3.out (to_drew (Below.refl _ _))
          clear E3 O3
          obtain ⟨v0, hv0⟩ : ∃ v0, v0 = w3.drew := ⟨_, rfl⟩
          rw [← hv0] at hHeld T OW ⊢
          clear hv0
          refine wpAnyH_take (i := 0) (oi := { dst := some 32, op := Op.fieldAddr 62 (Operand.tmp 4) 0, type := 0, pos := "ref.go:27", after := #[], guard := none }) (v := ?_) rfl (by kernel_rfl) (by kernel_rfl) (by kernel_rfl) (fun _ _ _ h => h) (Or.inl ⟨by rfl, ?_⟩) (by assumption) ?_
          rotate_left
          · (intro wq hSw; (try dsimp only at hSw); have p0 := (hSw.1.cell (p := ⟨b, o + X.length * 3, none⟩) hb).trans PX.out.1; have p1 := (hSw.1.cell (p := ⟨b, o + X.length * 3 + 1, none⟩) hb).trans PX.out.2.1; have p2 := (hSw.1.cell (p := ⟨b, o + X.length * 3 + 2, none⟩) hb).trans PX.out.2.2; clear hSw; go_simp; first | done | with_reducible rfl)
          try simp only [Act.put, List.setIfInBounds_toArray, List.set_cons_zero, List.set_cons_succ]
          refine wpAnyH_take (i := 2) (oi := { dst := some 34, op := Op.move (Operand.tmp 0), type := 40, pos := "ref.go:27", after := #[], guard := none }) (v := ?_) rfl (by kernel_rfl) (by kernel_rfl) (by kernel_rfl) (fun _ _ _ h => h) (Or.inl ⟨by rfl, ?_⟩) (by assumption) ?_
          rotate_left
          · (intro wq hSw; (try dsimp only at hSw); have p0 := (hSw.1.cell (p := ⟨b, o + X.length * 3, none⟩) hb).trans PX.out.1; have p1 := (hSw.1.cell (p := ⟨b, o + X.length * 3 + 1, none⟩) hb).trans PX.out.2.1; have p2 := (hSw.1.cell (p := ⟨b, o + X.length * 3 + 2, none⟩) hb).trans PX.out.2.2; clear hSw; go_simp; first | done | with_reducible rfl)
          try simp only [Act.put, List.setIfInBounds_toArray, List.set_cons_zero, List.set_cons_succ]
          refine wpAnyH_take (i := 3) (oi := { dst := some 35, op := Op.move (Operand.tmp 5), type := 3, pos := "ref.go:27", after := #[], guard := none }) (v := ?_) rfl (by kernel_rfl) (by kernel_rfl) (by kernel_rfl) (fun _ _ _ h => h) (Or.inl ⟨by rfl, ?_⟩) (by assumption) ?_
          rotate_left
          · (intro wq hSw; (try dsimp only at hSw); have p0 := (hSw.1.cell (p := ⟨b, o + X.length * 3, none⟩) hb).trans PX.out.1; have p1 := (hSw.1.cell (p := ⟨b, o + X.length * 3 + 1, none⟩) hb).trans PX.out.2.1; have p2 := (hSw.1.cell (p := ⟨b, o + X.length * 3 + 2, none⟩) hb).trans PX.out.2.2; clear hSw; go_simp; first | done | with_reducible rfl)
          try simp only [Act.put, List.setIfInBounds_toArray, List.set_cons_zero, List.set_cons_succ]
          refine wpAnyH_take (i := 4) (oi := { dst := some 36, op := Op.indexAddr 40 (Operand.tmp 34) (Operand.tmp 35), type := 0, pos := "ref.go:27", after := #[{ on := 2, ground := Ground.data }, { on := 3, ground := Ground.data }], guard := none }) (v := ?_) rfl (by kernel_rfl) (by kernel_rfl) (by kernel_rfl) (fun _ _ _ h => h) (Or.inl ⟨by rfl, ?_⟩) (by assumption) ?_
          rotate_left
          · (intro wq hSw; (try dsimp only at hSw); have p0 := (hSw.1.cell (p := ⟨b, o + X.length * 3, none⟩) hb).trans PX.out.1; have p1 := (hSw.1.cell (p := ⟨b, o + X.length * 3 + 1, none⟩) hb).trans PX.out.2.1; have p2 := (hSw.1.cell (p := ⟨b, o + X.length * 3 + 2, none⟩) hb).trans PX.out.2.2; clear hSw; go_simp; first | done | with_reducible rfl)
          try simp only [Act.put, List.setIfInBounds_toArray, List.set_cons_zero, List.set_cons_succ]
          refine wpAnyH_take (i := 5) (oi := { dst := some 37, op := Op.load 23 (Operand.tmp 36), type := 23, pos := "ref.go:27", after := #[{ on := 4, ground := Ground.data }], guard := none }) (v := ?_) rfl (by kernel_rfl) (by kernel_rfl) (by kernel_rfl) (fun _ _ _ h => h) (Or.inl ⟨by rfl, ?_⟩) (by assumption) ?_
          rotate_left
          · (intro wq hSw; (try dsimp only at hSw); have p0 := (hSw.1.cell (p := ⟨b, o + X.length * 3, none⟩) hb).trans PX.out.1; have p1 := (hSw.1.cell (p := ⟨b, o + X.length * 3 + 1, none⟩) hb).trans PX.out.2.1; have p2 := (hSw.1.cell (p := ⟨b, o + X.length * 3 + 2, none⟩) hb).trans PX.out.2.2; clear hSw; go_simp; first | done | with_reducible rfl)
          try simp only [Act.put, List.setIfInBounds_toArray, List.set_cons_zero, List.set_cons_succ]
          refine wpAnyH_ready (rs := [1, 6]) (by kernel_rfl) (by simp) ?_
          refine AllReadyH.cons (o := { dst := some 33, op := Op.load 40 (Operand.tmp 32), type := 40, pos := "ref.go:27", after := #[{ on := 0, ground := Ground.data }], guard := none }) rfl (fun K hK => ?_) ?_
          · go_simp
            have r0 := T.r.c0
            go_simp
            have hS := hHeld
            refine hK.out _ _ hS (fun hHeld => ?_)
            clear hK K hHeld
            clear r0
            have hHeld := hS
            clear hS
            try simp only [Act.put, List.setIfInBounds_toArray, List.set_cons_zero, List.set_cons_succ]
            refine wpAnyH_ready (rs := [6]) (by kernel_rfl) (by simp) ?_
            refine AllReadyH.cons (o := { dst := some 38, op := Op.call { callee := Callee.value (Operand.func 141), args := #[Operand.tmp 37], argTypes := #[23] }, type := 23, pos := "ref.go:27", after := #[{ on := 5, ground := Ground.data }], guard := none }) rfl (fun K hK => ?_) AllReadyH.nil
            go_simp
            refine (rup_any x.1 x.2.1 x.2.2 _ CK.out).mono ?_
            rintro e v2 ⟨rfl, hq⟩
            have hq : Below v0.heap.size v0 v2 := ⟨hq.os, hq.tape, hq.output, hq.size, hq.block⟩
            have T := T.keep hq
            have OW := owns_below OW hq
            have hS := And.intro (hHeld.1.trans (hq.mono hHeld.1.size)) (Nat.lt_of_lt_of_le hHeld.2 hq.size)
            go_wp2_with fail
            refine hK.out _ _ hS (fun hHeld => ?_)
            clear hK K hHeld
            clear hq
            have hHeld := hS
            clear hS
            try simp only [Act.put, List.setIfInBounds_toArray, List.set_cons_zero, List.set_cons_succ]
            refine wpAnyH_ready (rs := [7]) (by kernel_rfl) (by simp) ?_
            refine AllReadyH.cons (o := { dst := some 39, op := Op.buildSlice 40 1 #[(0, Operand.tmp 38)], type := 40, pos := "ref.go:27", after := #[{ on := 6, ground := Ground.data }], guard := none }) rfl (fun K hK => ?_) AllReadyH.nil
            go_simp
            have hq := below_new v2 (.cells #[.int .i64 x.1, .int .i64 x.2.1, .int .i64 (magA x.2.2)] 23)
            have NW := World.news_of_block (cs := #[.int .i64 x.1, .int .i64 x.2.1, .int .i64 (magA x.2.2)]) (t := 23) (fr := (0, 0)) (heap_alloc_new v2 _)
            have T := T.keep hq
            have OW := owns_below OW hq
            have WS : v2.heap.size < (v2.alloc (.cells #[.int .i64 x.1, .int .i64 x.2.1, .int .i64 (magA x.2.2)] 23)).heap.size := by simp
            have hS := And.intro (hHeld.1.trans (hq.mono hHeld.1.size)) (Nat.lt_of_lt_of_le hHeld.2 hq.size)
            refine hK.out _ _ hS (fun hHeld => ?_)
            clear hK K hHeld
            clear hq
            generalize v2.alloc (.cells #[.int .i64 x.1, .int .i64 x.2.1, .int .i64 (magA x.2.2)] 23) = v3 at *
            have hHeld := hS
            clear hS
            try simp only [Act.put, List.setIfInBounds_toArray, List.set_cons_zero, List.set_cons_succ]
            refine wpAnyH_ready (rs := [8]) (by kernel_rfl) (by simp) ?_
            refine AllReadyH.cons (o := { dst := some 40, op := Op.call { callee := Callee.builtin Builtin.append, args := #[Operand.tmp 33, Operand.tmp 39], argTypes := #[40, 40] }, type := 40, pos := "ref.go:27", after := #[{ on := 1, ground := Ground.data }, { on := 7, ground := Ground.data }, { on := 6, ground := Ground.chain }], guard := none }) rfl (fun K hK => ?_) AllReadyH.nil
            have sz := T.r.size
            refine step_append_lies _ rfl (.tmp 33) (.tmp 39) 40 rfl (w.heap.size + 2) 23 i0 (.agg #[.int .i64 0, .int .i64 0, .int .i64 0]) 3 24 Try.underlying40 hi hz0 hz1 hz2 rfl (by decide) _ X.length (cells3 X) (by simp [Act.eval, Act.put]) OW ⟨v2.heap.size, 0, none⟩ 1 1 (cells3 [(x.1, x.2.1, magA x.2.2)]) (by simp [Act.eval, Act.put]) rfl NW (cells3_one _) (by omega) (by unfold maxLen; omega) (by omega) (by omega) _ rfl ?_
            intro gg cap2 v4 own2 grow2 hat hlt
            have hq : Below (w.heap.size + 2) v3 v4 := (Below.refl _ _).grown grow2 (by omega) (fun g hg => (OW.lt g hg).1)
            have T := T.under hq (by omega)
            have hS := And.intro (hHeld.1.trans (hq.mono (by omega))) T.r.size
            refine hK.out _ _ hS (fun hHeld => ?_)
            clear hK K hHeld
            clear hq grow2 hat NW OW
            have hHeld := hS
            clear hS
            try simp only [Act.put, List.setIfInBounds_toArray, List.set_cons_zero, List.set_cons_succ]
            refine wpAnyH_take (i := 9) (oi := { dst := some 41, op := Op.fieldAddr 62 (Operand.tmp 4) 0, type := 0, pos := "ref.go:27", after := #[{ on := 0, ground := Ground.phase }, { on := 1, ground := Ground.phase }, { on := 2, ground := Ground.phase }, { on := 3, ground := Ground.phase }, { on := 4, ground := Ground.phase }, { on := 5, ground := Ground.phase }, { on := 6, ground := Ground.phase }, { on := 7, ground := Ground.phase }, { on := 8, ground := Ground.phase }], guard := none }) (v := ?_) rfl (by kernel_rfl) (by kernel_rfl) (by kernel_rfl) (fun _ _ _ h => h) (Or.inl ⟨by rfl, ?_⟩) (by assumption) ?_
            rotate_left
            · (intro wq hSw; (try dsimp only at hSw); have p0 := (hSw.1.cell (p := ⟨b, o + X.length * 3, none⟩) hb).trans PX.out.1; have p1 := (hSw.1.cell (p := ⟨b, o + X.length * 3 + 1, none⟩) hb).trans PX.out.2.1; have p2 := (hSw.1.cell (p := ⟨b, o + X.length * 3 + 2, none⟩) hb).trans PX.out.2.2; clear hSw; go_simp; first | done | with_reducible rfl)
            try simp only [Act.put, List.setIfInBounds_toArray, List.set_cons_zero, List.set_cons_succ]
            refine wpAnyH_ready (rs := [10]) (by kernel_rfl) (by simp) ?_
            refine AllReadyH.cons (o := { dst := none, op := Op.store 40 (Operand.tmp 41) (Operand.tmp 40), type := 0, pos := "ref.go:27", after := #[{ on := 9, ground := Ground.data }, { on := 8, ground := Ground.data }, { on := 8, ground := Ground.chain }, { on := 0, ground := Ground.phase }, { on := 1, ground := Ground.phase }, { on := 2, ground := Ground.phase }, { on := 3, ground := Ground.phase }, { on := 4, ground := Ground.phase }, { on := 5, ground := Ground.phase }, { on := 6, ground := Ground.phase }, { on := 7, ground := Ground.phase }, { on := 8, ground := Ground.phase }], guard := none }) rfl (fun K hK => ?_) AllReadyH.nil
            go_simp
            have r0 := T.r.c0
            have f0 := T.r.f0
            go_simp
            have T := T.store (.slice (some ⟨gg, 0, none⟩) (X.length + 1) cap2)
            have own2 := ownsRow_setCell_below (a := ⟨w.heap.size + 1, 0, none⟩) own2 (Nat.lt_succ_self (w.heap.size + 1)) (.slice (some ⟨gg, 0, none⟩) (X.length + 1) cap2)
            have hS := And.intro T.below T.r.size
            refine hK.out _ _ hS (fun hHeld => ?_)
            clear hK K hHeld
            clear r0 f0
            generalize v4.setCell ⟨w.heap.size + 1, 0, none⟩ (.slice (some ⟨gg, 0, none⟩) (X.length + 1) cap2) = v5 at *
            have hHeld := hS
            clear hS
            try simp only [Act.put, List.setIfInBounds_toArray, List.set_cons_zero, List.set_cons_succ]
            refine wpAnyH_done (by kernel_rfl) ?_ _
            have T5 : Hid (OSt2 w (.slice (some ⟨gg, 0, none⟩) (X ++ [upR x]).length cap2) v5) := Lib.hid (by rw [List.length_append]; exact T)
            have O5 : Hid (v5.ownsRow (w.heap.size + 2) 23 3 (.slice (some ⟨gg, 0, none⟩) (X ++ [upR x]).length cap2) (X ++ [upR x]).length (cells3 (X ++ [upR x]))) := Lib.hid (by rw [List.length_append, cells3_append]; exact own2)
            have Z5 : Hid ((X ++ [upR x]) = (L.take (X ++ [upR x]).length).map upR ∧ ∀ (i : Nat) (y : R3), i < (X ++ [upR x]).length → L[i]? = some y → chk y.1 y.2.1 y.2.2 = 0) := Lib.hid (by
              have h := hz.out
              refine ⟨?_, fun i y hi hy => ?_⟩
              · rw [List.length_append, List.length_singleton, List.take_add_one, FX.out, List.map_append, ← h.1]; rfl
              · rw [List.length_append, List.length_singleton] at hi
                by_cases q : i < X.length
                · exact h.2 i y q hy
                · obtain rfl : i = X.length := by omega
                  rw [FX.out] at hy; cases hy; exact CK.out)
            clear T own2 hHeld
            go_wp2_with fail
            go_roundg (L.length - X.length)
            case measure => exact KG.out
            case rel => exact ⟨X ++ [upR x], _, _, by simp, ⟨by simp; omega, by simp; omega⟩, Z5, T5, O5⟩
          refine AllReadyH.cons (o := { dst := some 38, op := Op.call { callee := Callee.value (Operand.func 141), args := #[Operand.tmp 37], argTypes := #[23] }, type := 23, pos := "ref.go:27", after := #[{ on := 5, ground := Ground.data }], guard := none }) rfl (fun K hK => ?_) ?_
          · go_simp
            refine (rup_any x.1 x.2.1 x.2.2 _ CK.out).mono ?_
            rintro e v6 ⟨rfl, hq⟩
            have hq : Below v0.heap.size v0 v6 := ⟨hq.os, hq.tape, hq.output, hq.size, hq.block⟩
            have T := T.keep hq
            have OW := owns_below OW hq
            have hS := And.intro (hHeld.1.trans (hq.mono hHeld.1.size)) (Nat.lt_of_lt_of_le hHeld.2 hq.size)
            go_wp2_with fail
            refine hK.out _ _ hS (fun hHeld => ?_)
            clear hK K hHeld
            clear hq
            have hHeld := hS
            clear hS
            try simp only [Act.put, List.setIfInBounds_toArray, List.set_cons_zero, List.set_cons_succ]
            refine wpAnyH_ready (rs := [1, 7]) (by kernel_rfl) (by simp) ?_
            refine AllReadyH.cons (o := { dst := some 33, op := Op.load 40 (Operand.tmp 32), type := 40, pos := "ref.go:27", after := #[{ on := 0, ground := Ground.data }], guard := none }) rfl (fun K hK => ?_) ?_
            · go_simp
              have r0 := T.r.c0
              go_simp
              have hS := hHeld
              refine hK.out _ _ hS (fun hHeld => ?_)
              clear hK K hHeld
              clear r0
              have hHeld := hS
              clear hS
              try simp only [Act.put, List.setIfInBounds_toArray, List.set_cons_zero, List.set_cons_succ]
              refine wpAnyH_ready (rs := [7]) (by kernel_rfl) (by simp) ?_
              refine AllReadyH.cons (o := { dst := some 39, op := Op.buildSlice 40 1 #[(0, Operand.tmp 38)], type := 40, pos := "ref.go:27", after := #[{ on := 6, ground := Ground.data }], guard := none }) rfl (fun K hK => ?_) AllReadyH.nil
              go_simp
              have hq := below_new v6 (.cells #[.int .i64 x.1, .int .i64 x.2.1, .int .i64 (magA x.2.2)] 23)
              have NW := World.news_of_block (cs := #[.int .i64 x.1, .int .i64 x.2.1, .int .i64 (magA x.2.2)]) (t := 23) (fr := (0, 0)) (heap_alloc_new v6 _)
              have T := T.keep hq
              have OW := owns_below OW hq
              have WS : v6.heap.size < (v6.alloc (.cells #[.int .i64 x.1, .int .i64 x.2.1, .int .i64 (magA x.2.2)] 23)).heap.size := by simp
              have hS := And.intro (hHeld.1.trans (hq.mono hHeld.1.size)) (Nat.lt_of_lt_of_le hHeld.2 hq.size)
              refine hK.out _ _ hS (fun hHeld => ?_)
              clear hK K hHeld
              clear hq
              generalize v6.alloc (.cells #[.int .i64 x.1, .int .i64 x.2.1, .int .i64 (magA x.2.2)] 23) = v8 at *
              have hHeld := hS
              clear hS
              try simp only [Act.put, List.setIfInBounds_toArray, List.set_cons_zero, List.set_cons_succ]
              refine wpAnyH_ready (rs := [8]) (by kernel_rfl) (by simp) ?_
              refine AllReadyH.cons (o := { dst := some 40, op := Op.call { callee := Callee.builtin Builtin.append, args := #[Operand.tmp 33, Operand.tmp 39], argTypes := #[40, 40] }, type := 40, pos := "ref.go:27", after := #[{ on := 1, ground := Ground.data }, { on := 7, ground := Ground.data }, { on := 6, ground := Ground.chain }], guard := none }) rfl (fun K hK => ?_) AllReadyH.nil
              have sz := T.r.size
              refine step_append_lies _ rfl (.tmp 33) (.tmp 39) 40 rfl (w.heap.size + 2) 23 i0 (.agg #[.int .i64 0, .int .i64 0, .int .i64 0]) 3 24 Try.underlying40 hi hz0 hz1 hz2 rfl (by decide) _ X.length (cells3 X) (by simp [Act.eval, Act.put]) OW ⟨v6.heap.size, 0, none⟩ 1 1 (cells3 [(x.1, x.2.1, magA x.2.2)]) (by simp [Act.eval, Act.put]) rfl NW (cells3_one _) (by omega) (by unfold maxLen; omega) (by omega) (by omega) _ rfl ?_
              intro gg cap2 v9 own2 grow2 hat hlt
              have hq : Below (w.heap.size + 2) v8 v9 := (Below.refl _ _).grown grow2 (by omega) (fun g hg => (OW.lt g hg).1)
              have T := T.under hq (by omega)
              have hS := And.intro (hHeld.1.trans (hq.mono (by omega))) T.r.size
              refine hK.out _ _ hS (fun hHeld => ?_)
              clear hK K hHeld
              clear hq grow2 hat NW OW
              have hHeld := hS
              clear hS
              try simp only [Act.put, List.setIfInBounds_toArray, List.set_cons_zero, List.set_cons_succ]
              refine wpAnyH_take (i := 9) (oi := { dst := some 41, op := Op.fieldAddr 62 (Operand.tmp 4) 0, type := 0, pos := "ref.go:27", after := #[{ on := 0, ground := Ground.phase }, { on := 1, ground := Ground.phase }, { on := 2, ground := Ground.phase }, { on := 3, ground := Ground.phase }, { on := 4, ground := Ground.phase }, { on := 5, ground := Ground.phase }, { on := 6, ground := Ground.phase }, { on := 7, ground := Ground.phase }, { on := 8, ground := Ground.phase }], guard := none }) (v := ?_) rfl (by kernel_rfl) (by kernel_rfl) (by kernel_rfl) (fun _ _ _ h => h) (Or.inl ⟨by rfl, ?_⟩) (by assumption) ?_
              rotate_left
              · (intro wq hSw; (try dsimp only at hSw); have p0 := (hSw.1.cell (p := ⟨b, o + X.length * 3, none⟩) hb).trans PX.out.1; have p1 := (hSw.1.cell (p := ⟨b, o + X.length * 3 + 1, none⟩) hb).trans PX.out.2.1; have p2 := (hSw.1.cell (p := ⟨b, o + X.length * 3 + 2, none⟩) hb).trans PX.out.2.2; clear hSw; go_simp; first | done | with_reducible rfl)
              try simp only [Act.put, List.setIfInBounds_toArray, List.set_cons_zero, List.set_cons_succ]
              refine wpAnyH_ready (rs := [10]) (by kernel_rfl) (by simp) ?_
              refine AllReadyH.cons (o := { dst := none, op := Op.store 40 (Operand.tmp 41) (Operand.tmp 40), type := 0, pos := "ref.go:27", after := #[{ on := 9, ground := Ground.data }, { on := 8, ground := Ground.data }, { on := 8, ground := Ground.chain }, { on := 0, ground := Ground.phase }, { on := 1, ground := Ground.phase }, { on := 2, ground := Ground.phase }, { on := 3, ground := Ground.phase }, { on := 4, ground := Ground.phase }, { on := 5, ground := Ground.phase }, { on := 6, ground := Ground.phase }, { on := 7, ground := Ground.phase }, { on := 8, ground := Ground.phase }], guard := none }) rfl (fun K hK => ?_) AllReadyH.nil
              go_simp
              have r0 := T.r.c0
              have f0 := T.r.f0
              go_simp
              have T := T.store (.slice (some ⟨gg, 0, none⟩) (X.length + 1) cap2)
              have own2 := ownsRow_setCell_below (a := ⟨w.heap.size + 1, 0, none⟩) own2 (Nat.lt_succ_self (w.heap.size + 1)) (.slice (some ⟨gg, 0, none⟩) (X.length + 1) cap2)
              have hS := And.intro T.below T.r.size
              refine hK.out _ _ hS (fun hHeld => ?_)
              clear hK K hHeld
              clear r0 f0
              generalize v9.setCell ⟨w.heap.size + 1, 0, none⟩ (.slice (some ⟨gg, 0, none⟩) (X.length + 1) cap2) = v10 at *
              have hHeld := hS
              clear hS
              try simp only [Act.put, List.setIfInBounds_toArray, List.set_cons_zero, List.set_cons_succ]
              refine wpAnyH_done (by kernel_rfl) ?_ _
              have T5 : Hid (OSt2 w (.slice (some ⟨gg, 0, none⟩) (X ++ [upR x]).length cap2) v10) := Lib.hid (by rw [List.length_append]; exact T)
              have O5 : Hid (v10.ownsRow (w.heap.size + 2) 23 3 (.slice (some ⟨gg, 0, none⟩) (X ++ [upR x]).length cap2) (X ++ [upR x]).length (cells3 (X ++ [upR x]))) := Lib.hid (by rw [List.length_append, cells3_append]; exact own2)
              have Z5 : Hid ((X ++ [upR x]) = (L.take (X ++ [upR x]).length).map upR ∧ ∀ (i : Nat) (y : R3), i < (X ++ [upR x]).length → L[i]? = some y → chk y.1 y.2.1 y.2.2 = 0) := Lib.hid (by
                have h := hz.out
                refine ⟨?_, fun i y hi hy => ?_⟩
                · rw [List.length_append, List.length_singleton, List.take_add_one, FX.out, List.map_append, ← h.1]; rfl
                · rw [List.length_append, List.length_singleton] at hi
                  by_cases q : i < X.length
                  · exact h.2 i y q hy
                  · obtain rfl : i = X.length := by omega
                    rw [FX.out] at hy; cases hy; exact CK.out)
              clear T own2 hHeld
              go_wp2_with fail
              go_roundg (L.length - X.length)
              case measure => exact KG.out
              case rel => exact ⟨X ++ [upR x], _, _, by simp, ⟨by simp; omega, by simp; omega⟩, Z5, T5, O5⟩
            refine AllReadyH.cons (o := { dst := some 39, op := Op.buildSlice 40 1 #[(0, Operand.tmp 38)], type := 40, pos := "ref.go:27", after := #[{ on := 6, ground := Ground.data }], guard := none }) rfl (fun K hK => ?_) ?_
            · go_simp
              have hq := below_new v6 (.cells #[.int .i64 x.1, .int .i64 x.2.1, .int .i64 (magA x.2.2)] 23)
              have NW := World.news_of_block (cs := #[.int .i64 x.1, .int .i64 x.2.1, .int .i64 (magA x.2.2)]) (t := 23) (fr := (0, 0)) (heap_alloc_new v6 _)
              have T := T.keep hq
              have OW := owns_below OW hq
              have WS : v6.heap.size < (v6.alloc (.cells #[.int .i64 x.1, .int .i64 x.2.1, .int .i64 (magA x.2.2)] 23)).heap.size := by simp
              have hS := And.intro (hHeld.1.trans (hq.mono hHeld.1.size)) (Nat.lt_of_lt_of_le hHeld.2 hq.size)
              refine hK.out _ _ hS (fun hHeld => ?_)
              clear hK K hHeld
              clear hq
              generalize v6.alloc (.cells #[.int .i64 x.1, .int .i64 x.2.1, .int .i64 (magA x.2.2)] 23) = v11 at *
              have hHeld := hS
              clear hS
              try simp only [Act.put, List.setIfInBounds_toArray, List.set_cons_zero, List.set_cons_succ]
              refine wpAnyH_ready (rs := [1]) (by kernel_rfl) (by simp) ?_
              refine AllReadyH.cons (o := { dst := some 33, op := Op.load 40 (Operand.tmp 32), type := 40, pos := "ref.go:27", after := #[{ on := 0, ground := Ground.data }], guard := none }) rfl (fun K hK => ?_) AllReadyH.nil
              go_simp
              have r0 := T.r.c0
              go_simp
              have hS := hHeld
              refine hK.out _ _ hS (fun hHeld => ?_)
              clear hK K hHeld
              clear r0
              have hHeld := hS
              clear hS
              try simp only [Act.put, List.setIfInBounds_toArray, List.set_cons_zero, List.set_cons_succ]
              refine wpAnyH_ready (rs := [8]) (by kernel_rfl) (by simp) ?_
              refine AllReadyH.cons (o := { dst := some 40, op := Op.call { callee := Callee.builtin Builtin.append, args := #[Operand.tmp 33, Operand.tmp 39], argTypes := #[40, 40] }, type := 40, pos := "ref.go:27", after := #[{ on := 1, ground := Ground.data }, { on := 7, ground := Ground.data }, { on := 6, ground := Ground.chain }], guard := none }) rfl (fun K hK => ?_) AllReadyH.nil
              have sz := T.r.size
              refine step_append_lies _ rfl (.tmp 33) (.tmp 39) 40 rfl (w.heap.size + 2) 23 i0 (.agg #[.int .i64 0, .int .i64 0, .int .i64 0]) 3 24 Try.underlying40 hi hz0 hz1 hz2 rfl (by decide) _ X.length (cells3 X) (by simp [Act.eval, Act.put]) OW ⟨v6.heap.size, 0, none⟩ 1 1 (cells3 [(x.1, x.2.1, magA x.2.2)]) (by simp [Act.eval, Act.put]) rfl NW (cells3_one _) (by omega) (by unfold maxLen; omega) (by omega) (by omega) _ rfl ?_
              intro gg cap2 v13 own2 grow2 hat hlt
              have hq : Below (w.heap.size + 2) v11 v13 := (Below.refl _ _).grown grow2 (by omega) (fun g hg => (OW.lt g hg).1)
              have T := T.under hq (by omega)
              have hS := And.intro (hHeld.1.trans (hq.mono (by omega))) T.r.size
              refine hK.out _ _ hS (fun hHeld => ?_)
              clear hK K hHeld
              clear hq grow2 hat NW OW
              have hHeld := hS
              clear hS
              try simp only [Act.put, List.setIfInBounds_toArray, List.set_cons_zero, List.set_cons_succ]
              refine wpAnyH_take (i := 9) (oi := { dst := some 41, op := Op.fieldAddr 62 (Operand.tmp 4) 0, type := 0, pos := "ref.go:27", after := #[{ on := 0, ground := Ground.phase }, { on := 1, ground := Ground.phase }, { on := 2, ground := Ground.phase }, { on := 3, ground := Ground.phase }, { on := 4, ground := Ground.phase }, { on := 5, ground := Ground.phase }, { on := 6, ground := Ground.phase }, { on := 7, ground := Ground.phase }, { on := 8, ground := Ground.phase }], guard := none }) (v := ?_) rfl (by kernel_rfl) (by kernel_rfl) (by kernel_rfl) (fun _ _ _ h => h) (Or.inl ⟨by rfl, ?_⟩) (by assumption) ?_
              rotate_left
              · (intro wq hSw; (try dsimp only at hSw); have p0 := (hSw.1.cell (p := ⟨b, o + X.length * 3, none⟩) hb).trans PX.out.1; have p1 := (hSw.1.cell (p := ⟨b, o + X.length * 3 + 1, none⟩) hb).trans PX.out.2.1; have p2 := (hSw.1.cell (p := ⟨b, o + X.length * 3 + 2, none⟩) hb).trans PX.out.2.2; clear hSw; go_simp; first | done | with_reducible rfl)
              try simp only [Act.put, List.setIfInBounds_toArray, List.set_cons_zero, List.set_cons_succ]
              refine wpAnyH_ready (rs := [10]) (by kernel_rfl) (by simp) ?_
              refine AllReadyH.cons (o := { dst := none, op := Op.store 40 (Operand.tmp 41) (Operand.tmp 40), type := 0, pos := "ref.go:27", after := #[{ on := 9, ground := Ground.data }, { on := 8, ground := Ground.data }, { on := 8, ground := Ground.chain }, { on := 0, ground := Ground.phase }, { on := 1, ground := Ground.phase }, { on := 2, ground := Ground.phase }, { on := 3, ground := Ground.phase }, { on := 4, ground := Ground.phase }, { on := 5, ground := Ground.phase }, { on := 6, ground := Ground.phase }, { on := 7, ground := Ground.phase }, { on := 8, ground := Ground.phase }], guard := none }) rfl (fun K hK => ?_) AllReadyH.nil
              go_simp
              have r0 := T.r.c0
              have f0 := T.r.f0
              go_simp
              have T := T.store (.slice (some ⟨gg, 0, none⟩) (X.length + 1) cap2)
              have own2 := ownsRow_setCell_below (a := ⟨w.heap.size + 1, 0, none⟩) own2 (Nat.lt_succ_self (w.heap.size + 1)) (.slice (some ⟨gg, 0, none⟩) (X.length + 1) cap2)
              have hS := And.intro T.below T.r.size
              refine hK.out _ _ hS (fun hHeld => ?_)
              clear hK K hHeld
              clear r0 f0
              generalize v13.setCell ⟨w.heap.size + 1, 0, none⟩ (.slice (some ⟨gg, 0, none⟩) (X.length + 1) cap2) = v14 at *
              have hHeld := hS
              clear hS
              try simp only [Act.put, List.setIfInBounds_toArray, List.set_cons_zero, List.set_cons_succ]
              refine wpAnyH_done (by kernel_rfl) ?_ _
              have T5 : Hid (OSt2 w (.slice (some ⟨gg, 0, none⟩) (X ++ [upR x]).length cap2) v14) := Lib.hid (by rw [List.length_append]; exact T)
              have O5 : Hid (v14.ownsRow (w.heap.size + 2) 23 3 (.slice (some ⟨gg, 0, none⟩) (X ++ [upR x]).length cap2) (X ++ [upR x]).length (cells3 (X ++ [upR x]))) := Lib.hid (by rw [List.length_append, cells3_append]; exact own2)
              have Z5 : Hid ((X ++ [upR x]) = (L.take (X ++ [upR x]).length).map upR ∧ ∀ (i : Nat) (y : R3), i < (X ++ [upR x]).length → L[i]? = some y → chk y.1 y.2.1 y.2.2 = 0) := Lib.hid (by
                have h := hz.out
                refine ⟨?_, fun i y hi hy => ?_⟩
                · rw [List.length_append, List.length_singleton, List.take_add_one, FX.out, List.map_append, ← h.1]; rfl
                · rw [List.length_append, List.length_singleton] at hi
                  by_cases q : i < X.length
                  · exact h.2 i y q hy
                  · obtain rfl : i = X.length := by omega
                    rw [FX.out] at hy; cases hy; exact CK.out)
              clear T own2 hHeld
              go_wp2_with fail
              go_roundg (L.length - X.length)
              case measure => exact KG.out
              case rel => exact ⟨X ++ [upR x], _, _, by simp, ⟨by simp; omega, by simp; omega⟩, Z5, T5, O5⟩
            exact AllReadyH.nil
          exact AllReadyH.nil
        · have E : Hid (ofErr L = chk x.1 x.2.1 x.2.2) := Lib.hid (by rw [EE.out]; exact firstE_at FX.out c hz.out.2)
          have C := Lib.hid c
          have c' : (chk x.1 x.2.1 x.2.2 != 0) = true := by simp [c]
          have z0 := E3.out.z.c0
          have z1 := E3.out.z.c1
          have z2 := E3.out.z.c2
          have z3 := E3.out.z.c3
          have f0 := E3.out.z.f0
          have f1 := E3.out.z.f1
          have f2 := E3.out.z.f2
          have f3 := E3.out.z.f3
          clear c
          go_wp2
          refine bodyPost_ret (v := .tuple #[.agg #[.slice none 0 0, .int .i64 0, .int .i64 0, .int .i64 0], .int .i64 (chk x.1 x.2.1 x.2.2)]) (by simp [results, Try.results61, go_sem, *]) rfl ⟨_, _, rfl, ?_, Lib.hid ⟨E.out.symm, Or.inr ⟨C.out, rfl⟩⟩⟩
          repeat (first | exact E3.out.below | refine Below.setCell ?_ (by simp; try omega) _)
      · have eL : X.length = L.length := by omega
        have EX : Hid (X = L.map upR ∧ ofErr L = 0) := Lib.hid (by
          have h := hz.out
          rw [eL, List.take_length] at h
          refine ⟨h.1, ?_⟩
          rw [EE.out]
          refine firstE_zero fun y hy => ?_
          obtain ⟨i, hi, e⟩ := List.getElem_of_mem hy
          exact h.2 i y hi (by rw [← e]; exact List.getElem?_eq_getElem hi))
        have r0 := E1.out.r.c0
        have r1 := E1.out.r.c1
        have r2 := E1.out.r.c2
        have r3 := E1.out.r.c3
        have z0 := E1.out.z.c0
        have z1 := E1.out.z.c1
        have z2 := E1.out.z.c2
        have z3 := E1.out.z.c3
        have f0 := E1.out.z.f0
        have f1 := E1.out.z.f1
        have f2 := E1.out.z.f2
        have f3 := E1.out.z.f3
        clear eL
        go_wp2
        refine bodyPost_ret (v := .tuple #[.agg #[.slice ro X.length rc, .int .i64 0, .int .i64 0, .int .i64 0], .int .i64 0]) (by simp [results, Try.results61, go_sem, *]) rfl ⟨_, _, rfl, ?_, Lib.hid ⟨EX.out.2.symm, Or.inl ⟨rfl, ?_⟩⟩⟩
        · repeat (first | exact E1.out.below | refine Below.setCell ?_ (by simp; try omega) _)
        · rw [← EX.out.1]
          refine owns_base (base := w.heap.size + 2) ?_ (by omega)
          repeat (first | exact O1.out | refine ownsRow_setCell_below ?_ (by simp; try omega) _)
  · exact bad nr
end Go.Proofs.Ytabgphlpdoockaa
