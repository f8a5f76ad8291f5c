/-
  Part 7: IrW, IrX, SetM, Shelf, SortA, IrY.
-/
import Derived.Test.YtcpeailodgoilaaAg5
import Derived.Test.YtcpeailodgoilaaAg6
import Derived.BigQuiet
import Derived.Deep.CutBlock
import Derived.Deep.DeepCutAuto
import Derived.Deep.DrawnRows
import Derived.Deep.LoopGhost
import Derived.Deep.QuietTactic
import Derived.Deep.RegionHeld3
import Derived.Deep.RegionWith
import Derived.Laws.Cover3
import Derived.Lib.Hide
import Derived.OwnWalk
import Derived.Shelf.Slices.In.SortNone
import Derived.Shelf.Sort.Plain
import Derived.Sort.OwnSortedInts
import Derived.Test.YtcpeailodgoilaaRows
import Derived.WalkKit
import Derived.WalkLawsBesides
import Derived.WalkSpells
namespace Go.Proofs.Ytcpeailodgoilaa
open Go.RowKit
set_option maxRecDepth 100000 in
set_option maxHeartbeats 3200000 in
theorem iwith_any (dv : Value) (k s h : Int) (b o cap : Nat) (X : List R3) (w : World) (hb : b < w.heap.size) (hc : Hid (At3 w b o X)) (hn : X.length ≤ 1000) (hd : ∃ a n c, dv = .slice a n c) :
    Calls Try.prog 246 #[.agg #[dv, .int .i64 k, .int .i64 s, .int .i64 h], .slice (some ⟨b, o, none⟩) X.length cap] w (DWithRet X k s h w) := by
  obtain ⟨da, dn, dc, rfl⟩ := hd
  have R0 := res44a w 62 (.slice da dn dc) (.int .i64 k) (.int .i64 s) (.int .i64 h) (.slice none 0 0) (.int .i64 0) (.int .i64 0) (.int .i64 0)
  go_enter Try.func246, Try.ntmps246
  go_upto_region 1 with fail
  generalize (w.alloc (.cells #[.slice da dn dc, .int .i64 k, .int .i64 s, .int .i64 h] 62)).alloc (.cells #[.slice none 0 0, .int .i64 0, .int .i64 0, .int .i64 0] 62) = w1 at *
  have B1 := Lib.hid R0.1
  have D1 := Lib.hid R0.2.1
  have Z1 := Lib.hid R0.2.2
  have d1 := D1.out.c1
  have d2 := D1.out.c2
  have d3 := D1.out.c3
  clear R0
  refine wp_region_held_drew (S := (fun w' => w'.cell? ⟨w.heap.size, 1, none⟩ = some (.int .i64 k) ∧ w'.cell? ⟨w.heap.size, 2, none⟩ = some (.int .i64 s) ∧ w'.cell? ⟨w.heap.size, 3, none⟩ = some (.int .i64 h))) (by kernel_rfl) ?_ (fun hHeld => ?_)
  · first | exact hHeld | exact ⟨d1, d2, d3⟩ | (obtain ⟨q0, q1, q2⟩ := hHeld; refine ⟨?_, ?_, ?_⟩ <;> simp [go_sem, *]; done) | go_keep
  refine wpAnyH_take (i := 0) (oi := { dst := some 5, op := Op.move (Operand.tmp 1), type := 40, pos := "irregular.go:107", after := #[], guard := none }) (v := ?_) rfl (by kernel_rfl) (by kernel_rfl) (by kernel_rfl) (fun _ _ _ h => h) (Or.inl ⟨by rfl, ?_⟩) (by assumption) ?_
  rotate_left
  · (intro w hSw; (try dsimp only at hSw); go_simp; first | done | with_reducible rfl)
  try simp only [Act.put, List.setIfInBounds_toArray, List.set_cons_zero, List.set_cons_succ]
  refine wpAnyH_take (i := 2) (oi := { dst := some 7, op := Op.fieldAddr 62 (Operand.tmp 2) 1, type := 0, pos := "irregular.go:107", after := #[], guard := none }) (v := ?_) rfl (by kernel_rfl) (by kernel_rfl) (by kernel_rfl) (fun _ _ _ h => h) (Or.inl ⟨by rfl, ?_⟩) (by assumption) ?_
  rotate_left
  · (intro w hSw; (try dsimp only at hSw); go_simp; first | done | with_reducible rfl)
  try simp only [Act.put, List.setIfInBounds_toArray, List.set_cons_zero, List.set_cons_succ]
  refine wpAnyH_take (i := 3) (oi := { dst := some 8, op := Op.load 60 (Operand.tmp 7), type := 60, pos := "irregular.go:107", after := #[{ on := 2, ground := Ground.data }], guard := none }) (v := ?_) rfl (by kernel_rfl) (by kernel_rfl) (by kernel_rfl) (fun _ _ _ h => h) (Or.inl ⟨by rfl, ?_⟩) (by assumption) ?_
  rotate_left
  · (intro w hSw; (try dsimp only at hSw); go_simp; first | done | with_reducible rfl)
  try simp only [Act.put, List.setIfInBounds_toArray, List.set_cons_zero, List.set_cons_succ]
  refine wpAnyH_ready (rs := [1]) (by kernel_rfl) (by simp) ?_
  refine AllReadyH.cons (o := { dst := some 6, op := Op.call { callee := Callee.value (Operand.func 219), args := #[Operand.tmp 5], argTypes := #[40] }, type := 40, pos := "irregular.go:107", after := #[{ on := 0, ground := Ground.data }], guard := none }) rfl (fun K hK => ?_) AllReadyH.nil
  go_simp
  refine (cloneR_any b o cap X _ (Nat.lt_of_lt_of_le hb (to_drew B1.out).size) (Lib.hid (hc.out.under (to_drew B1.out) hb)) hn).mono ?_
  rintro e w2 ⟨v', rfl, own, hb2'⟩
  have hb2 : Below w1.heap.size w1 w2 := ⟨hb2'.os, hb2'.tape, hb2'.output, hb2'.size, hb2'.block⟩
  have B2 := Lib.hid (B1.out.trans (hb2.mono B1.out.size))
  have D2 := Lib.hid (D1.out.keep hb2)
  have Z2 := Lib.hid (Z1.out.keep hb2)
  have OW : Hid (w2.ownsRow w1.heap.size 23 3 v' X.length (cells3 X)) := own
  obtain ⟨ra, rc, rfl⟩ := owns_slice OW.out
  have e1 := D2.out.c1
  have e2 := D2.out.c2
  have e3 := D2.out.c3
  have z0 := Z2.out.c0
  have z1 := Z2.out.c1
  have z2 := Z2.out.c2
  have z3 := Z2.out.c3
  have f0 := Z2.out.f0
  have f1 := Z2.out.f1
  have f2 := Z2.out.f2
  have f3 := Z2.out.f3
  clear hb2 hb2' own
  go_wp2_with fail
  refine hK.out _ _ ?_ (fun hHeld1 => ?_)
  · exact ⟨e1, e2, e3⟩
  clear hK K hHeld
  have hHeld := hHeld1
  clear hHeld1
  try simp only [Act.put, List.setIfInBounds_toArray, List.set_cons_zero, List.set_cons_succ]
  refine wpAnyH_take (i := 4) (oi := { dst := some 9, op := Op.build 62 #[(0, Operand.tmp 6), (1, Operand.tmp 8)], type := 62, pos := "irregular.go:107", after := #[{ on := 1, ground := Ground.data }, { on := 3, ground := Ground.data }], guard := none }) (v := ?_) rfl (by kernel_rfl) (by kernel_rfl) (by kernel_rfl) (fun _ _ _ h => h) (Or.inl ⟨by rfl, ?_⟩) (by assumption) ?_
  rotate_left
  · (intro w hSw; (try dsimp only at hSw); go_simp; first | done | with_reducible rfl)
  try simp only [Act.put, List.setIfInBounds_toArray, List.set_cons_zero, List.set_cons_succ]
  refine wpAnyH_ready (rs := [5]) (by kernel_rfl) (by simp) ?_
  refine AllReadyH.cons (o := { dst := none, op := Op.store 62 (Operand.tmp 4) (Operand.tmp 9), type := 0, pos := "irregular.go:107", after := #[{ on := 4, ground := Ground.data }, { on := 1, ground := Ground.chain }, { on := 0, ground := Ground.phase }, { on := 1, ground := Ground.phase }, { on := 2, ground := Ground.phase }, { on := 3, ground := Ground.phase }, { on := 4, ground := Ground.phase }], guard := none }) rfl (fun K hK => ?_) AllReadyH.nil
  go_simp
  refine hK.out _ _ ?_ (fun hHeld5 => ?_)
  · first | exact hHeld | exact ⟨d1, d2, d3⟩ | (obtain ⟨q0, q1, q2⟩ := hHeld; refine ⟨?_, ?_, ?_⟩ <;> simp [go_sem, *]; done) | go_keep
  clear hK K hHeld
  have hHeld := hHeld5
  clear hHeld5
  try simp only [Act.put, List.setIfInBounds_toArray, List.set_cons_zero, List.set_cons_succ]
  refine wpAnyH_done (by kernel_rfl) ?_ _

  have s1 := B1.out.size
  have s2 := Z1.out.size
  clear hHeld
  go_wp2
  refine bodyPost_ret (v := .agg #[.slice ra X.length rc, .int .i64 k, .int .i64 s, .int .i64 h]) (by simp [results, Try.results246, go_sem, *]) rfl ⟨_, rfl, Lib.hid ?_, ?_⟩
  · refine owns_base (base := w1.heap.size) ?_ s1
    repeat (first | exact OW.out | refine ownsRow_setCell_below ?_ (by simp; try omega) _)
  · repeat (first | exact B2.out | refine Below.setCell ?_ (by simp; try omega) _)
/-- the error of a parent -/
def cpE (L : List R3) (k s h : Int) : Int := if dchk L k s h = 0 then (if 1000000 < prodL L then 7 else 0) else dchk L k s h
set_option maxRecDepth 100000 in
set_option maxHeartbeats 3200000 in
theorem checkParent_any (v : Value) (L : List R3) (k s h : Int) (w : World) (hr : Rd w v L) (hL : Ok3 L) :
    Calls Try.prog 232 #[.agg #[v, .int .i64 k, .int .i64 s, .int .i64 h]] w fun e w' => e = .returned (.int .i64 (cpE L k s h)) ∧ Below w.heap.size w w' := by
  have HL := Lib.hid hL
  have HR : Hid (Rd w v L) := Lib.hid hr
  obtain ⟨od, cd, rfl, _⟩ := hr
  clear hL
  go_enter Try.func232, Try.ntmps232
  go_wp2_with fail
  refine (Dcheck_any _ L k s h _ (HR.out.keep (below_new _ _)) HL.out).mono ?_
  rintro e w1 ⟨rfl, hb1⟩
  have R1 := resD hb1
  have D1 : Hid (DSt w (.slice od L.length cd) k s h w1) := Lib.hid ⟨R1.1, R1.2⟩
  clear hb1 R1
  by_cases c : dchk L k s h = 0
  · rw [c]
    have C := Lib.hid c
    have DS : Hid (dsiz L k s h = prodL L) := Lib.hid (if_pos c)
    clear c
    have d0 := D1.out.d.c0
    have d1 := D1.out.d.c1
    have d2 := D1.out.d.c2
    have d3 := D1.out.d.c3
    go_wp2_with fail
    refine (Dsize_any _ L k s h _ (HR.out.keep D1.out.below) HL.out).mono ?_
    rintro e w2 ⟨rfl, hb2⟩
    rw [DS.out]
    have D2 := Lib.hid (D1.out.keep hb2)
    clear hb2 D1 d0 d1 d2 d3
    by_cases big : 1000000 < prodL L
    · have E : Hid (cpE L k s h = 7) := Lib.hid (by unfold cpE; rw [if_pos C.out, if_pos big])
      go_wp2
      exact bodyPost_ret (v := .int .i64 7) (by simp [results, Try.results232, go_sem, *]) rfl ⟨by rw [E.out], D2.out.below⟩
    · have E : Hid (cpE L k s h = 0) := Lib.hid (by unfold cpE; rw [if_pos C.out, if_neg big])
      go_wp2
      exact bodyPost_ret (v := .int .i64 0) (by simp [results, Try.results232, go_sem, *]) rfl ⟨by rw [E.out], D2.out.below⟩
  · have E : Hid (cpE L k s h = dchk L k s h) := Lib.hid (if_neg c)
    generalize dchk L k s h = er at *
    have c2 : (er != 0) = true := by simp [c]
    go_wp2
    exact bodyPost_ret (v := .int .i64 er) (by simp [results, Try.results232, go_sem, *]) rfl ⟨by rw [E.out], D1.out.below⟩
/-- whether numbers ascend from one on, below an end -/
def ascF (en : Int) : Int → List Int → Bool
  | _, [] => true
  | p, n :: l => if n ≤ p then false else if en ≤ n then false else ascF en n l
set_option maxRecDepth 100000 in
set_option maxHeartbeats 3200000 in
theorem ascending_any (iv : Value) (xs : List Int) (en : Int) (w : World) (hi : Ri w iv xs) (hl : xs.length ≤ 100000) :
    Calls Try.prog 247 #[iv, .int .i64 en] w fun e w' => e = .returned (.bool (ascF en (-1) xs)) ∧ w = w' := by
  obtain ⟨ai, ci, rfl, hci⟩ := hi
  have HC := Lib.hid hci
  clear hci
  go_enter Try.func247, Try.ntmps247
  go_wp2_with fail
  go_loopg [5, 7, 10] (xs.length + 1) (fun gh v5 _ v10 wr => ∃ (j : Nat) (p : Int), v10 = .int .i64 j ∧ v5 = .int .i64 p ∧ (j ≤ xs.length ∧ xs.length - j < gh) ∧ Hid (ascF en (-1) xs = ascF en p (xs.drop j)) ∧ wr = w)
  case atStart => exact ⟨0, -1, rfl, rfl, ⟨by omega, by omega⟩, Lib.hid rfl, rfl⟩
  case round =>
    obtain ⟨j, p, rfl, rfl, ⟨j0, jg⟩, hE, rfl⟩ := hrel
    have KG := Lib.hid jg
    clear jg
    by_cases hj : j < xs.length
    · obtain ⟨n, hn⟩ : ∃ n, xs[j]? = some n := ⟨xs[j], List.getElem?_eq_getElem hj⟩
      obtain ⟨b, o, rfl, _, cs⟩ := HC.out.resolve_left (by omega)
      have p0 := cs j n hn
      have ST : Hid (ascF en (-1) xs = if n ≤ p then false else if en ≤ n then false else ascF en n (xs.drop (j + 1))) := Lib.hid (by
        obtain ⟨lt, e⟩ := List.getElem?_eq_some_iff.1 hn
        rw [hE.out, List.drop_eq_getElem_cons lt, e]
        rfl)
      have jw : IntKind.i64.wrap ((j : Int) + 1) = (j : Int) + 1 := IntWalk.i64_in _ (by omega)
      clear hn cs hE
      by_cases c1 : n ≤ p
      · have E := Lib.hid (ST.out.trans (if_pos c1))
        go_wp2
        exact bodyPost_ret (v := .bool false) (by simp [results, Try.results247, go_sem, *]) rfl ⟨by rw [E.out], rfl⟩
      · have ST := Lib.hid (ST.out.trans (if_neg c1))
        by_cases c2 : en ≤ n
        · have E := Lib.hid (ST.out.trans (if_pos c2))
          go_wp2
          exact bodyPost_ret (v := .bool false) (by simp [results, Try.results247, go_sem, *]) rfl ⟨by rw [E.out], rfl⟩
        · have E := Lib.hid (ST.out.trans (if_neg c2))
          go_wp2_with fail
          go_roundg (xs.length - j)
          case measure => exact KG.out
          case rel => exact ⟨j + 1, n, by go_num, rfl, ⟨by omega, by omega⟩, E, rfl⟩
    · have E : Hid (ascF en (-1) xs = true) := Lib.hid (by rw [hE.out, List.drop_eq_nil_of_le (by omega)]; rfl)
      go_wp2
      exact bodyPost_ret (v := .bool true) (by simp [results, Try.results247, go_sem, *]) rfl ⟨by rw [E.out], rfl⟩
theorem Try.infoPair' : (Try.prog.info? 87).map (fun i => (i.zero, i.size, i.bytes)) = some (some (.agg #[.int .i64 0, .int .i64 0]), 2, 16) := by kernel_rfl
set_option maxRecDepth 100000 in
set_option maxHeartbeats 3200000 in
theorem pair_any (iv : Value) (a b : Int) (w : World) (hi : Ri w iv [a, b]) :
    Calls Try.prog 233 #[iv] w fun e w' => e = .returned (.agg #[.int .i64 a, .int .i64 b]) ∧ Below w.heap.size w w' := by
  obtain ⟨i0, hi0, hz0, hz1, hz2⟩ := info_parts Try.infoPair'
  obtain ⟨ai, ci, rfl, hci⟩ := hi
  obtain ⟨g, o, rfl, z, q⟩ := hci.resolve_left (by simp)
  have q0 := q 0 a rfl
  have q1 := q 1 b rfl
  have nb := Lib.hid (below_new w (.cells #[.int .i64 0, .int .i64 0] 87))
  have p0 : (w.alloc (.cells #[.int .i64 0, .int .i64 0] 87)).cell? ⟨g, o, none⟩ = some (.int .i64 a) := (nb.out.cell (p := ⟨g, o, none⟩) z).trans q0
  have p1 : (w.alloc (.cells #[.int .i64 0, .int .i64 0] 87)).cell? ⟨g, o + 1, none⟩ = some (.int .i64 b) := (nb.out.cell (p := ⟨g, o + 1, none⟩) z).trans q1
  have hat : ∀ w, (Instr.arrayAt 87 (.slice (some ⟨g, o, none⟩) 2 ci)).run Try.prog w = .ok (.pointer (some ⟨g, o, none⟩)) w := fun w => run_arrayAt w 87 3 2 _ 2 ci Try.underlying87 (by omega)
  have x0 : (w.alloc (.cells #[.int .i64 0, .int .i64 0] 87)).cell? ⟨w.heap.size, 0, none⟩ = some (.int .i64 0) := by simp [go_sem]
  clear q q0 q1 hci
  change Calls _ _ #[.slice (some ⟨g, o, none⟩) 2 ci] _ _
  go_enter Try.func233, Try.ntmps233
  go_wp2
  refine bodyPost_ret (v := .agg #[.int .i64 a, .int .i64 b]) (by simp [results, Try.results233, go_sem, *]) rfl ⟨rfl, ?_⟩
  first | exact below_new _ _ | (repeat (first | exact nb.out | refine Below.setCell ?_ (by simp; try omega) _))
end Go.Proofs.Ytcpeailodgoilaa
namespace Go.Proofs.Ytcpeailodgoilaa
open Go.RowKit
/-- a block of a sparse domain -/
structure Blk5 (g : Nat) (a b c d e : Value) (w : World) : Prop where
  size : g < w.heap.size
  c0 : w.cell? ⟨g, 0, none⟩ = some a
  c1 : w.cell? ⟨g, 1, none⟩ = some b
  c2 : w.cell? ⟨g, 2, none⟩ = some c
  c3 : w.cell? ⟨g, 3, none⟩ = some d
  c4 : w.cell? ⟨g, 4, none⟩ = some e
theorem Blk5.keep {g : Nat} {a b c d e : Value} {w w1 : World} (k : Blk5 g a b c d e w) (hb : Below w.heap.size w w1) : Blk5 g a b c d e w1 :=
  ⟨Nat.lt_of_lt_of_le k.size hb.size, (hb.cell (p := ⟨g, 0, none⟩) k.size).trans k.c0, (hb.cell (p := ⟨g, 1, none⟩) k.size).trans k.c1, (hb.cell (p := ⟨g, 2, none⟩) k.size).trans k.c2, (hb.cell (p := ⟨g, 3, none⟩) k.size).trans k.c3, (hb.cell (p := ⟨g, 4, none⟩) k.size).trans k.c4⟩
theorem Blk5.new (a b c d e : Value) (t : TypeId) (w : World) : Blk5 w.heap.size a b c d e (w.alloc (.cells #[a, b, c, d, e] t)) := by
  constructor <;> simp [go_sem]
/-- the error of a sparse domain -/
def schkE (L : List R3) (k s h : Int) (xs : List Int) : Int := if cpE L k s h = 0 then (if 5000 < xs.length then 5 else if ascF (prodL L) (-1) xs = true then 0 else 51) else cpE L k s h
theorem cp_zero {L : List R3} {k s h : Int} (c : cpE L k s h = 0) : dchk L k s h = 0 := by
  unfold cpE at c
  split at c
  · assumption
  · exact c
set_option maxRecDepth 100000 in
set_option maxHeartbeats 6400000 in
theorem icheck_any (v : Value) (L : List R3) (k s h : Int) (av : Value) (xs : List Int) (w : World) (hr : Rd w v L) (hL : Ok3 L) (ha : Ri w av xs) (hl : xs.length ≤ 100000) :
    Calls Try.prog 235 #[.agg #[v, .int .i64 k, .int .i64 s, .int .i64 h, av]] w fun e w' => e = .returned (.int .i64 (schkE L k s h xs)) ∧ Below w.heap.size w w' := by
  have HL := Lib.hid hL
  have HR : Hid (Rd w v L) := Lib.hid hr
  have HA : Hid (Ri w av xs) := Lib.hid ha
  obtain ⟨od, cd, rfl, _⟩ := hr
  obtain ⟨oi, ci, rfl, _⟩ := ha
  have B0 := Lib.hid (below_new w (.cells #[.slice od L.length cd, .int .i64 k, .int .i64 s, .int .i64 h, .slice oi xs.length ci] 175))
  have D0 := Lib.hid (Blk5.new (.slice od L.length cd) (.int .i64 k) (.int .i64 s) (.int .i64 h) (.slice oi xs.length ci) 175 w)
  clear hL
  go_enter Try.func235, Try.ntmps235
  go_upto_region 1 with fail
  generalize w.alloc (.cells #[.slice od L.length cd, .int .i64 k, .int .i64 s, .int .i64 h, .slice oi xs.length ci] 175) = u0 at *
  have c0 := D0.out.c0
  have c1 := D0.out.c1
  have c2 := D0.out.c2
  have c3 := D0.out.c3
  have c4 := D0.out.c4
  go_wp2_with fail
  refine (checkParent_any _ L k s h _ (HR.out.keep B0.out) HL.out).mono ?_
  rintro e u1 ⟨rfl, hb⟩
  have B1 := Lib.hid (B0.out.trans (hb.mono B0.out.size))
  have D1 := Lib.hid (D0.out.keep hb)
  clear hb B0 D0 c0 c1 c2 c3 c4
  by_cases cp : cpE L k s h = 0
  · rw [cp]
    have CP := Lib.hid cp
    have DS : Hid (dsiz L k s h = prodL L) := Lib.hid (if_pos (cp_zero cp))
    clear cp
    have B2 := B1
    have D2 := D1
    have c4 := D1.out.c4
    clear B1 D1
    by_cases big : 5000 < xs.length
    · have b' : (5000 : Int) < (xs.length : Int) := by omega
      have E : Hid (schkE L k s h xs = 5) := Lib.hid (by unfold schkE; rw [if_pos CP.out, if_pos big])
      clear big
      go_wp2
      exact bodyPost_ret (v := .int .i64 5) (by simp [results, Try.results235, go_sem, *]) rfl ⟨by rw [E.out], B2.out⟩
    · have b' : ¬ (5000 : Int) < (xs.length : Int) := by omega
      have BG := Lib.hid big
      clear big
      go_upto_region 6 with fail
      clear c4
      refine wp_region_held_drew (S := (fun w' => Below u1.heap.size u1 w')) (by kernel_rfl) (to_drew (Below.refl _ _)) (fun hHeld => ?_)
      obtain ⟨v0, hv0⟩ : ∃ v0, v0 = u1.drew := ⟨_, rfl⟩
      rw [← hv0] at hHeld ⊢
      clear hv0
      refine wpAnyH_take (i := 0) (oi := { dst := some 14, op := Op.fieldAddr 175 (Operand.tmp 1) 1, type := 0, pos := "irregular.go:36", after := #[], guard := none }) (v := ?_) rfl (by kernel_rfl) (by kernel_rfl) (by kernel_rfl) (fun _ _ _ h => h) (Or.inl ⟨by rfl, ?_⟩) (by assumption) ?_
      rotate_left
      · (intro wq hSw; (try dsimp only at hSw); have K := D2.out.keep hSw; have c0 := K.c0; have c1 := K.c1; have c2 := K.c2; have c3 := K.c3; have c4 := K.c4; clear K; clear hSw; go_simp; first | done | with_reducible rfl)
      try simp only [Act.put, List.setIfInBounds_toArray, List.set_cons_zero, List.set_cons_succ]
      refine wpAnyH_take (i := 1) (oi := { dst := some 15, op := Op.load 48 (Operand.tmp 14), type := 48, pos := "irregular.go:36", after := #[{ on := 0, ground := Ground.data }], guard := none }) (v := ?_) rfl (by kernel_rfl) (by kernel_rfl) (by kernel_rfl) (fun _ _ _ h => h) (Or.inl ⟨by rfl, ?_⟩) (by assumption) ?_
      rotate_left
      · (intro wq hSw; (try dsimp only at hSw); have K := D2.out.keep hSw; have c0 := K.c0; have c1 := K.c1; have c2 := K.c2; have c3 := K.c3; have c4 := K.c4; clear K; clear hSw; go_simp; first | done | with_reducible rfl)
      try simp only [Act.put, List.setIfInBounds_toArray, List.set_cons_zero, List.set_cons_succ]
      refine wpAnyH_take (i := 2) (oi := { dst := some 16, op := Op.fieldAddr 175 (Operand.tmp 1) 0, type := 0, pos := "irregular.go:36", after := #[], guard := none }) (v := ?_) rfl (by kernel_rfl) (by kernel_rfl) (by kernel_rfl) (fun _ _ _ h => h) (Or.inl ⟨by rfl, ?_⟩) (by assumption) ?_
      rotate_left
      · (intro wq hSw; (try dsimp only at hSw); have K := D2.out.keep hSw; have c0 := K.c0; have c1 := K.c1; have c2 := K.c2; have c3 := K.c3; have c4 := K.c4; clear K; clear hSw; go_simp; first | done | with_reducible rfl)
      try simp only [Act.put, List.setIfInBounds_toArray, List.set_cons_zero, List.set_cons_succ]
      refine wpAnyH_take (i := 3) (oi := { dst := some 17, op := Op.load 62 (Operand.tmp 16), type := 62, pos := "irregular.go:36", after := #[{ on := 2, ground := Ground.data }], guard := none }) (v := ?_) rfl (by kernel_rfl) (by kernel_rfl) (by kernel_rfl) (fun _ _ _ h => h) (Or.inl ⟨by rfl, ?_⟩) (by assumption) ?_
      rotate_left
      · (intro wq hSw; (try dsimp only at hSw); have K := D2.out.keep hSw; have c0 := K.c0; have c1 := K.c1; have c2 := K.c2; have c3 := K.c3; have c4 := K.c4; clear K; clear hSw; go_simp; first | done | with_reducible rfl)
      try simp only [Act.put, List.setIfInBounds_toArray, List.set_cons_zero, List.set_cons_succ]
      refine wpAnyH_ready (rs := [4]) (by kernel_rfl) (by simp) ?_
      refine AllReadyH.cons (o := { dst := some 18, op := Op.call { callee := Callee.value (Operand.func 71), args := #[Operand.tmp 17], argTypes := #[62] }, type := 3, pos := "irregular.go:36", after := #[{ on := 3, ground := Ground.data }], guard := none }) rfl (fun K hK => ?_) AllReadyH.nil
      go_simp
      refine (Dsize_any _ L k s h _ (HR.out.keep (B2.out.trans (hHeld.mono B2.out.size))) HL.out).mono ?_
      rintro e v1 ⟨rfl, hq⟩
      have hq : Below v0.heap.size v0 v1 := ⟨hq.os, hq.tape, hq.output, hq.size, hq.block⟩
      rw [DS.out]
      have hS := hHeld.trans (hq.mono hHeld.size)
      go_wp2_with fail
      refine hK.out _ _ hS (fun hHeld => ?_)
      clear hK K hHeld
      clear hq
      have hHeld := hS
      clear hS
      try simp only [Act.put, List.setIfInBounds_toArray, List.set_cons_zero, List.set_cons_succ]
      refine wpAnyH_ready (rs := [5]) (by kernel_rfl) (by simp) ?_
      refine AllReadyH.cons (o := { dst := some 19, op := Op.call { callee := Callee.value (Operand.func 247), args := #[Operand.tmp 15, Operand.tmp 18], argTypes := #[48, 3] }, type := 4, pos := "irregular.go:36", after := #[{ on := 1, ground := Ground.data }, { on := 4, ground := Ground.data }, { on := 4, ground := Ground.chain }], guard := none }) rfl (fun K hK => ?_) AllReadyH.nil
      go_simp
      refine (ascending_any _ xs (prodL L) _ (HA.out.keep (B2.out.trans (hHeld.mono B2.out.size))) hl).mono ?_
      rintro e v2 ⟨rfl, hq0⟩
      have hq : Below v1.heap.size v1 v2 := hq0 ▸ Below.refl _ _
      clear hq0
      have hS := hHeld.trans (hq.mono hHeld.size)
      go_wp2_with fail
      refine hK.out _ _ hS (fun hHeld => ?_)
      clear hK K hHeld
      clear hq
      have hHeld := hS
      clear hS
      try simp only [Act.put, List.setIfInBounds_toArray, List.set_cons_zero, List.set_cons_succ]
      refine wpAnyH_take (i := 6) (oi := { dst := some 20, op := Op.unOp UnOp.not 4 (Operand.tmp 19), type := 4, pos := "irregular.go:36", after := #[{ on := 5, ground := Ground.data }], guard := none }) (v := ?_) rfl (by kernel_rfl) (by kernel_rfl) (by kernel_rfl) (fun _ _ _ h => h) (Or.inl ⟨by rfl, ?_⟩) (by assumption) ?_
      rotate_left
      · (intro wq hSw; (try dsimp only at hSw); have K := D2.out.keep hSw; have c0 := K.c0; have c1 := K.c1; have c2 := K.c2; have c3 := K.c3; have c4 := K.c4; clear K; clear hSw; go_simp; first | done | with_reducible rfl)
      try simp only [Act.put, List.setIfInBounds_toArray, List.set_cons_zero, List.set_cons_succ]
      refine wpAnyH_done (by kernel_rfl) ?_ _
      have B3 := Lib.hid (B2.out.trans (hHeld.mono B2.out.size))
      clear hHeld B2 D2
      cases a : ascF (prodL L) (-1) xs
      · have E : Hid (schkE L k s h xs = 51) := Lib.hid (by unfold schkE; rw [if_pos CP.out, if_neg BG.out, a]; rfl)
        rw [a] at *
        go_wp2
        exact bodyPost_ret (v := .int .i64 51) (by simp [results, Try.results235, go_sem, *]) rfl ⟨by rw [E.out], B3.out⟩
      · have E : Hid (schkE L k s h xs = 0) := Lib.hid (by unfold schkE; rw [if_pos CP.out, if_neg BG.out, a]; rfl)
        go_wp2
        exact bodyPost_ret (v := .int .i64 0) (by simp [results, Try.results235, go_sem, *]) rfl ⟨by rw [E.out], B3.out⟩
  · have E : Hid (schkE L k s h xs = cpE L k s h) := Lib.hid (if_neg cp)
    generalize cpE L k s h = er at *
    have c2 : (er != 0) = true := by simp [cp]
    go_wp2
    exact bodyPost_ret (v := .int .i64 er) (by simp [results, Try.results235, go_sem, *]) rfl ⟨by rw [E.out], B1.out⟩
end Go.Proofs.Ytcpeailodgoilaa
namespace Go.Proofs.Ytcpeailodgoilaa
/-- the numbers of a list, ascending -/
def srt (xs : List Int) : List Int := xs.mergeSort fun x y => decide (x ≤ y)
theorem srt_length (xs : List Int) : (srt xs).length = xs.length := List.length_mergeSort _
theorem srt_asc (xs : List Int) : (srt xs).Pairwise (· ≤ ·) := by
  have := List.pairwise_mergeSort (le := fun x y : Int => decide (x ≤ y)) (fun a b c h1 h2 => by simp at *; omega) (fun a b => by simp; omega) xs
  exact this.imp fun h => by simpa using h
theorem posB_iff {l h s n : Int} (hk : chk l h s = 0) : posB l h s n = true ↔ RMem l h s n := by
  unfold posB RMem Mem
  rw [decide_eq_true_iff]
  constructor
  · rintro ⟨_, a, b, c⟩; exact ⟨a, b, Int.dvd_of_emod_eq_zero c⟩
  · rintro ⟨a, b, c⟩; exact ⟨hk, a, b, Int.emod_eq_zero_of_dvd c⟩
theorem nums_mem {l h s : Int} (hk : chk l h s = 0) (n : Int) : n ∈ numsL l h s ↔ RMem l h s n := by
  unfold numsL numsU
  rw [List.mem_map]
  constructor
  · rintro ⟨k, hk1, rfl⟩
    have hlt : k < (siz l h s).toNat := by simpa using hk1
    exact (posB_iff hk).1 (nthV_in hk (show (k : Int) < siz l h s by omega)).1
  · intro hm
    have le : l ≤ h := by have := hm.1; have := hm.2.1; omega
    obtain ⟨st, z, m1, s0⟩ := steps_a hk le
    obtain ⟨q, hq⟩ := hm.2.2
    have h1 := hm.1
    have h2 := hm.2.1
    have q0 : 0 ≤ q := by
      by_cases c : 0 ≤ q
      · exact c
      · have : magA s * q ≤ magA s * (-1) := Int.mul_le_mul_of_nonneg_left (by omega) (by omega)
        omega
    have q1 : q ≤ siz l h s - 1 := by
      by_cases c : q ≤ siz l h s - 1
      · exact c
      · have : (siz l h s - 1 + 1) * magA s ≤ q * magA s := mulr_a _ _ _ (by omega) (by omega)
        rw [Int.add_mul] at this
        rw [Int.mul_comm] at hq
        omega
    by_cases c : s < 0
    · refine ⟨(siz l h s - 1 - q).toNat, by simp; omega, ?_⟩
      unfold nthV
      rw [if_pos c, show (((siz l h s - 1 - q).toNat : Nat) : Int) = siz l h s - 1 - q by omega, Int.sub_mul, ← st, Int.mul_comm q, ← hq]
      omega
    · refine ⟨q.toNat, by simp; omega, ?_⟩
      unfold nthV
      rw [if_neg c, show ((q.toNat : Nat) : Int) = q by omega, Int.mul_comm, ← hq]
      omega
theorem nums_up {l h s : Int} (hk : chk l h s = 0) (hs : ¬ s < 0) : (numsL l h s).Pairwise (· < ·) := by
  have bA := chk_bounds hk
  unfold numsL numsU
  rw [List.pairwise_map]
  refine List.Pairwise.imp ?_ List.pairwise_lt_range
  intro i j hij
  unfold nthV
  rw [if_neg hs, if_neg hs]
  have : ((i : Int) + 1) * magA s ≤ (j : Int) * magA s := mulr_a _ _ _ (by omega) (by omega)
  rw [Int.add_mul] at this
  omega
theorem nums_down {l h s : Int} (hk : chk l h s = 0) (hs : s < 0) : (numsL l h s).Pairwise (· > ·) := by
  have bA := chk_bounds hk
  unfold numsL numsU
  rw [List.pairwise_map]
  refine List.Pairwise.imp ?_ List.pairwise_lt_range
  intro i j hij
  unfold nthV
  rw [if_pos hs, if_pos hs]
  have : ((i : Int) + 1) * magA s ≤ (j : Int) * magA s := mulr_a _ _ _ (by omega) (by omega)
  rw [Int.add_mul] at this
  show _ > _
  omega
theorem nums_nodup {l h s : Int} (hk : chk l h s = 0) : (numsL l h s).Nodup := by
  by_cases c : s < 0
  · exact (nums_down hk c).imp fun h => by omega
  · exact (nums_up hk c).imp fun h => by omega
/-- the numbers of a list of ranges -/
def numsAll (L : List R3) : List Int := L.flatMap fun x => numsL x.1 x.2.1 x.2.2
/-- a list of right ranges that are not empty, that have no number twice, and just the numbers of which P holds -/
structure Acc (P : Int → Prop) (L : List R3) : Prop where
  ok : ∀ x ∈ L, chk x.1 x.2.1 x.2.2 = 0 ∧ x.1 ≤ x.2.1
  nodup : (numsAll L).Nodup
  mem : ∀ n, n ∈ numsAll L ↔ P n
theorem Acc.nil {P : Int → Prop} (h : ∀ n, ¬ P n) : Acc P [] := ⟨fun _ hx => (by cases hx), List.nodup_nil, fun n => ⟨fun hx => (by cases hx), fun hx => absurd hx (h n)⟩⟩
theorem Acc.iff {P Q : Int → Prop} {L : List R3} (a : Acc P L) (h : ∀ n, P n ↔ Q n) : Acc Q L := ⟨a.ok, a.nodup, fun n => (a.mem n).trans (h n)⟩
theorem nrm_le' {lo hi st : Int} {dn : Bool} (c : lo ≤ hi) : (nrm lo hi st dn).1 = lo ∧ (nrm lo hi st dn).2.1 = hi := by
  unfold nrm nL nH; simp; exact ⟨fun _ => by omega, fun _ => by omega⟩
theorem nrm_mem {lo hi st : Int} {dn : Bool} (c : lo ≤ hi) (h1 : 1 ≤ st) (n : Int) : RMem (nrm lo hi st dn).1 (nrm lo hi st dn).2.1 (nrm lo hi st dn).2.2 n ↔ Mem lo hi st n := by
  obtain ⟨e1, e2⟩ := nrm_le' (st := st) (dn := dn) c
  unfold RMem
  rw [e1, e2]
  unfold nrm nS Mem
  simp only
  rw [if_neg (by omega)]
  by_cases e : lo = hi
  · subst e
    rw [if_pos rfl]
    constructor
    · rintro ⟨a, b, _⟩; exact ⟨a, b, by rw [show n - lo = 0 by omega]; exact Int.dvd_zero _⟩
    · rintro ⟨a, b, _⟩; exact ⟨a, b, by rw [show n - lo = 0 by omega]; exact Int.dvd_zero _⟩
  · rw [if_neg e]
    have : magA (if dn = true then -st else st) = st := by
      unfold magA; split <;> split <;> omega
    rw [this]
theorem Acc.add {P : Int → Prop} {L : List R3} (a : Acc P L) (lo hi st : Int) (dn : Bool) (h1 : 1 ≤ st) (hb : lo ≤ hi → (st ∣ hi - lo) ∧ -1000000 ≤ lo ∧ hi ≤ 1000000) (hn : ∀ n, P n → ¬ Mem lo hi st n) : Acc (fun n => P n ∨ Mem lo hi st n) (addP L lo hi st dn) := by
  unfold addP
  by_cases c : lo ≤ hi
  · rw [if_pos c]
    obtain ⟨b1, b2, b3⟩ := hb c
    have ck : chk (nrm lo hi st dn).1 (nrm lo hi st dn).2.1 (nrm lo hi st dn).2.2 = 0 := by
      have := chk_nrm lo hi st dn c h1 (Int.emod_eq_zero_of_dvd b1)
      rw [if_neg (by omega)] at this
      exact this
    have e : numsAll (L ++ [nrm lo hi st dn]) = numsAll L ++ numsL (nrm lo hi st dn).1 (nrm lo hi st dn).2.1 (nrm lo hi st dn).2.2 := by
      unfold numsAll; rw [List.flatMap_append]; simp
    refine ⟨?_, ?_, ?_⟩
    · intro x hx
      rw [List.mem_append, List.mem_singleton] at hx
      rcases hx with hx | rfl
      · exact a.ok x hx
      · exact ⟨ck, by rw [(nrm_le' c).1, (nrm_le' c).2]; exact c⟩
    · rw [e, List.nodup_append]
      refine ⟨a.nodup, nums_nodup ck, fun x hx y hy exy => ?_⟩
      subst exy
      exact hn x ((a.mem x).1 hx) ((nrm_mem c h1 x).1 ((nums_mem ck x).1 hy))
    · intro n
      rw [e, List.mem_append, a.mem, nums_mem ck, nrm_mem c h1]
  · rw [if_neg c]
    exact a.iff fun n => ⟨Or.inl, fun h => h.elim id fun m => absurd (Int.le_trans m.1 m.2.1) c⟩
end Go.Proofs.Ytcpeailodgoilaa
namespace Go.Proofs.Ytcpeailodgoilaa
open Go.Shelf
def Try.lays189_ren : Go.Shelf.Ren := ⟨fun | 189 => 56 | 125 => 158 | 257 => 157 | 128 => 214 | 129 => 215 | 294 => 205 | 295 => 206 | 296 => 207 | 297 => 208 | 298 => 209 | 299 => 210 | 216 => 211 | 300 => 212 | 301 => 213 | 328 => 238 | 329 => 239 | 330 => 240 | 331 => 241 | 332 => 242 | 215 => 222 | 343 => 248 | n => n, fun | 28 => 48 | 3 => 3 | 46 => 129 | 0 => 0 | 51 => 202 | 53 => 119 | 4 => 4 | 183 => 196 | 182 => 195 | 131 => 29 | 5 => 5 | 9 => 9 | 218 => 221 | 222 => 225 | 228 => 230 | 229 => 140 | n => n, fun | n => n⟩
theorem Try.lays189 : Go.Proofs.Lays.n189 Try.prog Try.lays189_ren := {
  mixed := by kernel_rfl
  f125 := Try.func158.trans (congrArg some (by kernel_rfl))
  f128 := Try.func214.trans (congrArg some (by kernel_rfl))
  f129 := Try.func215.trans (congrArg some (by kernel_rfl))
  f189 := Try.func56.trans (congrArg some (by kernel_rfl))
  f215 := Try.func222.trans (congrArg some (by kernel_rfl))
  f216 := Try.func211.trans (congrArg some (by kernel_rfl))
  f257 := Try.func157.trans (congrArg some (by kernel_rfl))
  f294 := Try.func205.trans (congrArg some (by kernel_rfl))
  f295 := Try.func206.trans (congrArg some (by kernel_rfl))
  f296 := Try.func207.trans (congrArg some (by kernel_rfl))
  f297 := Try.func208.trans (congrArg some (by kernel_rfl))
  f298 := Try.func209.trans (congrArg some (by kernel_rfl))
  f299 := Try.func210.trans (congrArg some (by kernel_rfl))
  f300 := Try.func212.trans (congrArg some (by kernel_rfl))
  f301 := Try.func213.trans (congrArg some (by kernel_rfl))
  f328 := Try.func238.trans (congrArg some (by kernel_rfl))
  f329 := Try.func239.trans (congrArg some (by kernel_rfl))
  f330 := Try.func240.trans (congrArg some (by kernel_rfl))
  f331 := Try.func241.trans (congrArg some (by kernel_rfl))
  f332 := Try.func242.trans (congrArg some (by kernel_rfl))
  f343 := Try.func248.trans (congrArg some (by kernel_rfl))
  t0 := Try.underlying0
  a0 := Try.isAgg0
  z0 := Try.sizeOf0
  v0 := Try.zeroValue0
  t3 := Try.underlying3
  a3 := Try.isAgg3
  z3 := Try.sizeOf3
  v3 := Try.zeroValue3
  t4 := Try.underlying4
  a4 := Try.isAgg4
  z4 := Try.sizeOf4
  v4 := Try.zeroValue4
  t5 := Try.underlying5
  a5 := Try.isAgg5
  z5 := Try.sizeOf5
  v5 := Try.zeroValue5
  t9 := Try.underlying9
  a9 := Try.isAgg9
  z9 := Try.sizeOf9
  v9 := Try.zeroValue9
  t28 := Try.underlying48
  a28 := Try.isAgg48
  z28 := Try.sizeOf48
  v28 := Try.zeroValue48
  t46 := Try.underlying129
  a46 := Try.isAgg129
  z46 := Try.sizeOf129
  v46 := Try.zeroValue129
  t51 := Try.underlying202
  a51 := Try.isAgg202
  z51 := Try.sizeOf202
  v51 := Try.zeroValue202
  t53 := Try.underlying119
  a53 := Try.isAgg119
  z53 := Try.sizeOf119
  v53 := Try.zeroValue119
  t131 := Try.underlying29
  a131 := Try.isAgg29
  z131 := Try.sizeOf29
  v131 := Try.zeroValue29
  t182 := Try.underlying195
  a182 := Try.isAgg195
  z182 := Try.sizeOf195
  v182 := Try.zeroValue195
  t183 := Try.underlying196
  a183 := Try.isAgg196
  z183 := Try.sizeOf196
  v183 := Try.zeroValue196
  t218 := Try.underlying221
  a218 := Try.isAgg221
  z218 := Try.sizeOf221
  v218 := Try.zeroValue221
  t222 := Try.underlying225
  a222 := Try.isAgg225
  z222 := Try.sizeOf225
  v222 := Try.zeroValue225
  t228 := Try.underlying230
  a228 := Try.isAgg230
  z228 := Try.sizeOf230
  v228 := Try.zeroValue230
  t229 := Try.underlying140
  a229 := Try.isAgg140
  z229 := Try.sizeOf140
  v229 := Try.zeroValue140 }
open Go.Sort Go.RowKit in
theorem Try.slices_Sort_int (blk off cap : Nat) (zs : List Int) (w : World) (hH : Holds (Value.int .i64) w blk off zs.toArray) (hblk : blk < w.heap.size) (hsz : zs.length < 4611686018427387904) :
    Calls Try.prog 56 #[.slice (some ⟨blk, off, none⟩) zs.length cap] w fun e w' =>
      e = .returned (.tuple #[]) ∧ ∃ n os, w' = grow (putRow (Value.int .i64) (Sort.ahead w n) blk off (zs.mergeSort fun x y => decide (x ≤ y)).toArray) os := Any.slices_Sort_int Try.lays189 blk off cap zs w hH hblk hsz
open Go.RowKit Go.Sort in
/-- .. and plain. (LAID: no walk: one application.) -/
theorem Try.slices_Sort_int_none (p : Option Addr) (cap : Nat) (w : World) :
    Calls Try.prog 56 #[.slice p 0 cap] w fun e w' => e = .returned (.tuple #[]) ∧ w' = w := Any.slices_Sort_int_none Try.lays189 p cap w
end Go.Proofs.Ytcpeailodgoilaa
namespace Go.Proofs.Ytcpeailodgoilaa
open Go.RowKit
theorem sort_any (v : Value) (xs : List Int) (base : Nat) (w : World) (h : w.ownsRow base 3 1 v xs.length (xs.map (Value.int .i64))) (hn : xs.length ≤ 5000) :
    Calls Try.prog 56 #[v] w fun e w' => e = .returned (.tuple #[]) ∧ Hid (w'.ownsRow base 3 1 v xs.length ((srt xs).map (Value.int .i64))) ∧ w.grownBy w' v.ownBlock := by
  rcases h.2 with ⟨rfl, h0⟩ | ⟨g, cap, cur, rfl, hb, hg, hle, hm, hs, ht⟩
  · have e : xs = [] := List.eq_nil_of_length_eq_zero h0
    subst e
    refine (show Calls Try.prog 56 #[.slice none 0 0] w _ from Any.slices_Sort_int_none Try.lays189 none 0 w).mono ?_
    rintro e w' ⟨he, rfl⟩
    exact ⟨he, Lib.hid (by simpa [srt] using World.ownsRow_nil w' base 3 1), rfl, rfl, rfl, Nat.le_refl _, fun _ _ _ => rfl⟩
  · refine (Try.slices_Sort_int g 0 cap xs w (holds_of_blockI hg (by simpa using ht)) (Array.getElem?_eq_some_iff.1 hg).1 (by omega)).mono ?_
    rintro e w' ⟨he, n, os, rfl⟩
    exact ⟨he, Lib.hid (ownsRow_sortedI (srt_length xs) hb hg hle hm hs), grownBy_sortedI _⟩
end Go.Proofs.Ytcpeailodgoilaa
namespace Go.Proofs.Ytcpeailodgoilaa
open Go.RowKit
theorem row5 {w : World} {g : Nat} {a b c d e : Value} {t : TypeId} (h : w.heap[g]? = some (.cells #[a, b, c, d, e] t (0, 0))) : (w.cell? ⟨g, 0, none⟩ = some a ∧ w.cell? ⟨g, 1, none⟩ = some b ∧ w.cell? ⟨g, 2, none⟩ = some c ∧ w.cell? ⟨g, 3, none⟩ = some d ∧ w.cell? ⟨g, 4, none⟩ = some e) ∧ ∀ i, w.frozen? ⟨g, i, none⟩ = false := by
  refine ⟨⟨?_, ?_, ?_, ?_, ?_⟩, fun i => ?_⟩
  · simp [World.cell?, h]
  · simp [World.cell?, h]
  · simp [World.cell?, h]
  · simp [World.cell?, h]
  · simp [World.cell?, h]
  · simp [World.frozen?, h]
theorem setCell_at {w : World} {g i : Nat} {cs : Array Value} {t : TypeId} {fr : Nat × Nat} (h : w.heap[g]? = some (.cells cs t fr)) (v : Value) : (w.setCell ⟨g, i, none⟩ v).heap[g]? = some (.cells (cs.setIfInBounds i v) t fr) := by
  obtain ⟨hlt, hk⟩ := Array.getElem?_eq_some_iff.1 h
  show (w.heap.modify g _)[g]? = _
  rw [Array.getElem?_eq_getElem (by simpa using hlt), Array.getElem_modify_self]
  rw [hk]
  rfl
def set5 (w : World) (g : Nat) (a b c d e : Value) : World := ((((w.setCell ⟨g, 0, none⟩ a).setCell ⟨g, 1, none⟩ b).setCell ⟨g, 2, none⟩ c).setCell ⟨g, 3, none⟩ d).setCell ⟨g, 4, none⟩ e
theorem set5_at {w : World} {g : Nat} {a b c d e a' b' c' d' e' : Value} {t : TypeId} (h : w.heap[g]? = some (.cells #[a, b, c, d, e] t (0, 0))) : (set5 w g a' b' c' d' e').heap[g]? = some (.cells #[a', b', c', d', e'] t (0, 0)) := by
  have h0 := setCell_at (i := 0) h a'
  have h1 := setCell_at (i := 1) h0 b'
  have h2 := setCell_at (i := 2) h1 c'
  have h3 := setCell_at (i := 3) h2 d'
  have h4 := setCell_at (i := 4) h3 e'
  simp only [List.setIfInBounds_toArray, List.set_cons_zero, List.set_cons_succ] at h4
  exact h4
theorem set5_below {B g : Nat} {w : World} (h : B ≤ g) (a b c d e : Value) : Below B w (set5 w g a b c d e) :=
  (((((Below.refl _ _).setCell (p := ⟨g, 0, none⟩) h a).setCell (p := ⟨g, 1, none⟩) h b).setCell (p := ⟨g, 2, none⟩) h c).setCell (p := ⟨g, 3, none⟩) h d).setCell (p := ⟨g, 4, none⟩) h e
set_option maxRecDepth 100000 in
set_option maxHeartbeats 6400000 in
theorem isorted_any (b o cap : Nat) (L : List R3) (k s h : Int) (av : Value) (xs : List Int) (base : Nat) (w : World) (hbase : base ≤ w.heap.size) (hb : b < base) (hc : Hid (At3 w b o L)) (hn : L.length ≤ 1000)
    (own : Hid (w.ownsRow base 3 1 av xs.length (xs.map (Value.int .i64)))) (hx : xs.length ≤ 5000) :
    Calls Try.prog 234 #[.agg #[.slice (some ⟨b, o, none⟩) L.length cap, .int .i64 k, .int .i64 s, .int .i64 h], av] w fun e w' => ∃ v', e = .returned (.tuple #[.agg #[v', .int .i64 k, .int .i64 s, .int .i64 h, av], .int .i64 0]) ∧
      Hid (w'.ownsRow w.heap.size 23 3 v' L.length (cells3 L)) ∧ Hid (w'.ownsRow base 3 1 av xs.length ((srt xs).map (Value.int .i64))) ∧ Below base w w' := by
  obtain ⟨ao, ca, rfl⟩ := owns_slice own.out
  have OL := Lib.hid (own.out.lt)
  have nx : ¬ (5000 : Int) < (xs.length : Int) := by omega
  have a1 : (w.alloc (.cells #[.slice (some ⟨b, o, none⟩) L.length cap, .int .i64 k, .int .i64 s, .int .i64 h] 62)).heap[w.heap.size]? = some (.cells #[.slice (some ⟨b, o, none⟩) L.length cap, .int .i64 k, .int .i64 s, .int .i64 h] 62 (0, 0)) := World.alloc_heap_new w _
  have DH : Hid (((w.alloc (.cells #[.slice (some ⟨b, o, none⟩) L.length cap, .int .i64 k, .int .i64 s, .int .i64 h] 62)).alloc (.cells #[.slice none 0 0, .int .i64 0, .int .i64 0, .int .i64 0, .slice none 0 0] 175)).heap[w.heap.size]? = some (.cells #[.slice (some ⟨b, o, none⟩) L.length cap, .int .i64 k, .int .i64 s, .int .i64 h] 62 (0, 0))) := Lib.hid ((Below.heap_alloc _ _ _ (by simp)).trans a1)
  have ZH : Hid (((w.alloc (.cells #[.slice (some ⟨b, o, none⟩) L.length cap, .int .i64 k, .int .i64 s, .int .i64 h] 62)).alloc (.cells #[.slice none 0 0, .int .i64 0, .int .i64 0, .int .i64 0, .slice none 0 0] 175)).heap[w.heap.size + 1]? = some (.cells #[.slice none 0 0, .int .i64 0, .int .i64 0, .int .i64 0, .slice none 0 0] 175 (0, 0))) := Lib.hid (by
    have := World.alloc_heap_new (w.alloc (.cells #[.slice (some ⟨b, o, none⟩) L.length cap, .int .i64 k, .int .i64 s, .int .i64 h] 62)) (.cells #[.slice none 0 0, .int .i64 0, .int .i64 0, .int .i64 0, .slice none 0 0] 175)
    rwa [World.size_alloc] at this)
  have B2 : Hid (Below w.heap.size w ((w.alloc (.cells #[.slice (some ⟨b, o, none⟩) L.length cap, .int .i64 k, .int .i64 s, .int .i64 h] 62)).alloc (.cells #[.slice none 0 0, .int .i64 0, .int .i64 0, .int .i64 0, .slice none 0 0] 175))) := Lib.hid ((below_new _ _).alloc (by simp) _)
  have S2 : Hid (w.heap.size + 2 ≤ ((w.alloc (.cells #[.slice (some ⟨b, o, none⟩) L.length cap, .int .i64 k, .int .i64 s, .int .i64 h] 62)).alloc (.cells #[.slice none 0 0, .int .i64 0, .int .i64 0, .int .i64 0, .slice none 0 0] 175)).heap.size) := Lib.hid (by simp)
  have O2 := Lib.hid (owns_below own.out B2.out)
  clear a1 own
  go_enter Try.func234, Try.ntmps234
  go_upto_region 1 with fail
  generalize ((w.alloc (.cells #[.slice (some ⟨b, o, none⟩) L.length cap, .int .i64 k, .int .i64 s, .int .i64 h] 62)).alloc (.cells #[.slice none 0 0, .int .i64 0, .int .i64 0, .int .i64 0, .slice none 0 0] 175)) = w2 at *
  go_wp2_with fail
  refine (sort_any _ xs base _ O2.out hx).mono ?_
  rintro e w3 ⟨rfl, ow3, grow⟩
  have ne : ∀ j, w.heap.size ≤ j → some j ≠ (Value.slice ao xs.length ca).ownBlock := fun j hj e => by have := (OL.out j e.symm).2; omega
  have DH3 := Lib.hid ((grow.block _ (Array.getElem?_eq_some_iff.1 DH.out).1 (ne _ (Nat.le_refl _))).trans DH.out)
  have ZH3 := Lib.hid ((grow.block _ (Array.getElem?_eq_some_iff.1 ZH.out).1 (ne _ (by omega))).trans ZH.out)
  have B3 : Hid (Below base w w3) := Lib.hid ((B2.out.mono hbase).grown grow (by have := S2.out; omega) (fun g hg => (O2.out.lt g hg).1))
  have S3 : Hid (w.heap.size + 2 ≤ w3.heap.size) := Lib.hid (Nat.le_trans S2.out grow.size)
  have A3 : Hid (At3 w3 b o L) := Lib.hid (hc.out.under B3.out hb)
  have OW3 := Lib.hid ow3.out
  obtain ⟨d0, d1, d2, d3⟩ := row4 DH3.out
  clear grow ow3 ne DH ZH B2 S2 O2
  go_wp2_with fail
  refine (iwith_any (.slice (some ⟨b, o, none⟩) L.length cap) k s h b o cap L _ (by have := S3.out; omega) A3 hn ⟨_, _, _, rfl⟩).mono ?_
  rintro e w4 ⟨v', rfl, ow4, hb4⟩
  have ZH4 := Lib.hid (heap_keep ZH3.out hb4)
  have B4 : Hid (Below base w w4) := Lib.hid (B3.out.trans (hb4.mono (by have := S3.out; omega)))
  have OA4 := Lib.hid (owns_below OW3.out hb4)
  have OV4 := Lib.hid ow4.out
  obtain ⟨ra, rc, rfl⟩ := owns_slice OV4.out
  obtain ⟨⟨z0, z1, z2, z3, z4⟩, fz⟩ := row5 ZH4.out
  have f0 := fz 0
  have f1 := fz 1
  have f2 := fz 2
  have f3 := fz 3
  have f4 := fz 4
  have s3 := S3.out
  have ol := OL.out
  clear fz ow4 hb4 DH3 ZH3 A3 d0 d1 d2 d3
  have H5 := set5_at (a' := .slice ra L.length rc) (b' := .int .i64 k) (c' := .int .i64 s) (d' := .int .i64 h) (e' := .slice ao xs.length ca) ZH4.out
  have B5 : Hid (Below base w (set5 w4 (w.heap.size + 1) (.slice ra L.length rc) (.int .i64 k) (.int .i64 s) (.int .i64 h) (.slice ao xs.length ca))) := Lib.hid (B4.out.trans (set5_below (by omega) _ _ _ _ _))
  have P5 : Hid ((set5 w4 (w.heap.size + 1) (.slice ra L.length rc) (.int .i64 k) (.int .i64 s) (.int .i64 h) (.slice ao xs.length ca)).ownsRow base 3 1 (.slice ao xs.length ca) xs.length ((srt xs).map (Value.int .i64))) := Lib.hid (owns_under OA4.out (B := w.heap.size) (set5_below (by omega) _ _ _ _ _) (fun g hg => (ol g hg).2))
  have Q5 : Hid ((set5 w4 (w.heap.size + 1) (.slice ra L.length rc) (.int .i64 k) (.int .i64 s) (.int .i64 h) (.slice ao xs.length ca)).ownsRow w.heap.size 23 3 (.slice ra L.length rc) L.length (cells3 L)) := Lib.hid (by
    refine owns_base (base := w3.heap.size) ?_ (by omega)
    unfold set5
    exact ownsRow_setCell_below (ownsRow_setCell_below (ownsRow_setCell_below (ownsRow_setCell_below (ownsRow_setCell_below OV4.out (show w.heap.size + 1 < _ by omega) _) (show w.heap.size + 1 < _ by omega) _) (show w.heap.size + 1 < _ by omega) _) (show w.heap.size + 1 < _ by omega) _) (show w.heap.size + 1 < _ by omega) _)
  have R5 := Lib.hid (row5 H5)
  clear H5 ol
  go_wp2
  change bodyPost _ _ _ Exit.ret _ (set5 w4 (w.heap.size + 1) (.slice ra L.length rc) (.int .i64 k) (.int .i64 s) (.int .i64 h) (.slice ao xs.length ca))
  generalize set5 w4 (w.heap.size + 1) (.slice ra L.length rc) (.int .i64 k) (.int .i64 s) (.int .i64 h) (.slice ao xs.length ca) = w5 at *
  obtain ⟨y0, y1, y2, y3, y4⟩ := R5.out.1
  clear z0 z1 z2 z3 z4 f0 f1 f2 f3 f4 s3 nx
  exact bodyPost_ret (v := .tuple #[.agg #[.slice ra L.length rc, .int .i64 k, .int .i64 s, .int .i64 h, .slice ao xs.length ca], .int .i64 0]) (by simp [results, Try.results234, go_sem, y0, y1, y2, y3, y4]) rfl ⟨_, rfl, Q5, P5, B5.out⟩
end Go.Proofs.Ytcpeailodgoilaa
