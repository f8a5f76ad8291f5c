/-
  Part 9: DQ, IrW, IrX, SetM, Shelf, SortA.
-/
import Derived.Test.YtcpeailodgoilaaKy7
import Derived.Test.YtcpeailodgoilaaKy8
import Derived.BigQuiet
import Derived.Deep.CutBlock
import Derived.Deep.DeepCutAuto
import Derived.Deep.DrawnRows
import Derived.Deep.LoopGhost
import Derived.Deep.QuietTactic
import Derived.Deep.RegionHeld3
import Derived.Deep.RegionWith
import Derived.Laws.Cover3
import Derived.Lib.Hide
import Derived.OwnWalk
import Derived.Shelf.Slices.In.SortNone
import Derived.Shelf.Sort.Plain
import Derived.Sort.OwnSortedInts
import Derived.Test.YtcpeailodgoilaaRows
import Derived.WalkKit
import Derived.WalkLawsBesides
import Derived.WalkSpells
namespace Go.Proofs.Ytcpeailodgoilaa
open Go.RowKit
/-- a slice of ints reads as a list -/
def Ri (w : World) (v : Value) (L : List Int) : Prop := ∃ (ao : Option Addr) (cap : Nat), v = .slice ao L.length cap ∧ (L.length = 0 ∨ ∃ b o : Nat, ao = some ⟨b, o, none⟩ ∧ b < w.heap.size ∧
  ∀ (j : Nat) (x : Int), L[j]? = some x → w.cell? ⟨b, o + j, none⟩ = some (.int .i64 x))
theorem Ri.keep {w w' : World} {v : Value} {L : List Int} (r : Ri w v L) (hb : Below w.heap.size w w') : Ri w' v L := by
  obtain ⟨ao, cap, e, h⟩ := r
  refine ⟨ao, cap, e, h.imp id ?_⟩
  rintro ⟨b, o, e, hlt, hc⟩
  exact ⟨b, o, e, Nat.lt_of_lt_of_le hlt hb.size, fun j x hx => (hb.cell (p := ⟨b, o + j, none⟩) hlt).trans (hc j x hx)⟩
def Ok1 (L : List Int) : Prop := ∀ x ∈ L, I64 x
theorem posN_bd (l h s n : Int) : 0 ≤ posN l h s n ∧ posN l h s n ≤ 2000001 := by
  unfold posN
  split
  · rename_i hp
    unfold posB at hp
    obtain ⟨hk, h1, h2, _⟩ := of_decide_eq_true hp
    have b := chk_bounds hk
    have m := magA_nonneg s
    split
    · have := Int.ediv_nonneg (show 0 ≤ h - n by omega) m
      have := Int.ediv_le_self (magA s) (show 0 ≤ h - n by omega)
      omega
    · have := Int.ediv_nonneg (show 0 ≤ n - l by omega) m
      have := Int.ediv_le_self (magA s) (show 0 ≤ n - l by omega)
      omega
  · omega
/-- the first numbers are in their ranges -/
def posOk (L : List R3) (ns : List Int) : Nat → Bool
  | 0 => true
  | j + 1 => posOk L ns j && (match L[j]?, ns[j]? with
    | some x, some n => posB x.1 x.2.1 x.2.2 n
    | _, _ => false)
/-- their position -/
def posP (L : List R3) (ns : List Int) : Nat → Int
  | 0 => 0
  | j + 1 => (match L[j]?, ns[j]? with
    | some x, some n => posP L ns j * siz x.1 x.2.1 x.2.2 + posN x.1 x.2.1 x.2.2 n
    | _, _ => 0)
theorem posOk_next {L : List R3} {ns : List Int} {j : Nat} {x : R3} {n : Int} (hx : L[j]? = some x) (hn : ns[j]? = some n) (h0 : posOk L ns j = true) : posOk L ns (j + 1) = posB x.1 x.2.1 x.2.2 n := by
  unfold posOk; rw [h0, hx, hn]; rfl
theorem posP_next {L : List R3} {ns : List Int} {j : Nat} {x : R3} {n : Int} (hx : L[j]? = some x) (hn : ns[j]? = some n) : posP L ns (j + 1) = posP L ns j * siz x.1 x.2.1 x.2.2 + posN x.1 x.2.1 x.2.2 n := by
  show (match L[j]?, ns[j]? with | some x, some n => _ | _, _ => _) = _
  rw [hx, hn]
theorem posOk_false {L : List R3} {ns : List Int} {j : Nat} (h : posOk L ns j = false) : ∀ d, posOk L ns (j + d) = false
  | 0 => h
  | d + 1 => by
    show posOk L ns (j + d + 1) = false
    unfold posOk
    rw [posOk_false h d]
    rfl
theorem posP_nonneg (L : List R3) (ns : List Int) : ∀ j, 0 ≤ posP L ns j
  | 0 => Int.le_refl _
  | j + 1 => by
    unfold posP
    split
    · rename_i x n _ _
      have h1 := Int.mul_nonneg (posP_nonneg L ns j) (siz_bdA x.1 x.2.1 x.2.2).1
      have h2 := (posN_bd x.1 x.2.1 x.2.2 n).1
      omega
    · omega
theorem posP_one (L : List R3) (ns : List Int) {j : Nat} (hj : j ≤ 1) : posP L ns j ≤ 2000001 := by
  match j, hj with
  | 0, _ => unfold posP; omega
  | 1, _ =>
    unfold posP
    split
    · rename_i x n _ _
      have h2 := (posN_bd x.1 x.2.1 x.2.2 n).2
      unfold posP
      omega
    · omega
/-- an index is in a domain; its position -/
def dposB (L : List R3) (k s h : Int) (ns : List Int) : Bool := decide (dchk L k s h = 0) && (decide (ns.length = L.length) && posOk L ns L.length)
def dposN (L : List R3) (k s h : Int) (ns : List Int) : Int := if dposB L k s h ns = true then posP L ns L.length else 0
theorem dposB_bad {L : List R3} {k s h : Int} {ns : List Int} (c : ¬ dchk L k s h = 0) : dposB L k s h ns = false := by unfold dposB; simp [c]
theorem dposB_len {L : List R3} {k s h : Int} {ns : List Int} (c : ¬ ns.length = L.length) : dposB L k s h ns = false := by unfold dposB; simp [c]
theorem dposB_good {L : List R3} {k s h : Int} {ns : List Int} (c : dchk L k s h = 0) (e : ns.length = L.length) : dposB L k s h ns = posOk L ns L.length := by unfold dposB; simp [c, e]
theorem dposN_no {L : List R3} {k s h : Int} {ns : List Int} (c : dposB L k s h ns = false) : dposN L k s h ns = 0 := by unfold dposN; rw [c]; rfl
theorem dposN_yes {L : List R3} {k s h : Int} {ns : List Int} (c : dposB L k s h ns = true) : dposN L k s h ns = posP L ns L.length := by unfold dposN; rw [if_pos c]
theorem mul_bdQ {a b : Int} (a0 : 0 ≤ a) (a1 : a ≤ 2000001) (b0 : 0 ≤ b) (b1 : b ≤ 2000001) : 0 ≤ a * b ∧ a * b ≤ 4000004000001 := prod_two a b a0 a1 b0 b1
set_option maxRecDepth 100000 in
set_option maxHeartbeats 3200000 in
theorem Dpos_any (v : Value) (L : List R3) (k s h : Int) (iv : Value) (ns : List Int) (w : World) (hr : Rd w v L) (hL : Ok3 L) (hi : Ri w iv ns) (hns : Ok1 ns) :
    Calls Try.prog 66 #[.agg #[v, .int .i64 k, .int .i64 s, .int .i64 h], iv] w fun e w' => e = .returned (.tuple #[.int .i64 (dposN L k s h ns), .bool (dposB L k s h ns)]) ∧ Below w.heap.size w w' := by
  obtain ⟨ao, cap, rfl, hc⟩ := hr
  obtain ⟨ai, ci, rfl, hci⟩ := hi
  have HR : Hid (Rd w (.slice ao L.length cap) L) := Lib.hid ⟨ao, cap, rfl, hc⟩
  have HI : Hid (Ri w (.slice ai ns.length ci) ns) := Lib.hid ⟨ai, ci, rfl, hci⟩
  have HC := Lib.hid hc
  have HIC := Lib.hid hci
  have HL := Lib.hid hL
  have HN := Lib.hid hns
  clear hc hci hL hns
  go_enter Try.func66, Try.ntmps66
  go_wp2_with fail
  refine (Dcheck_any _ L _ _ _ _ (HR.out.keep (below_new _ _)) HL.out).mono ?_
  rintro e w1 ⟨rfl, hb1⟩
  have R1 := resD hb1
  have D1 : Hid (DSt w (.slice ao L.length cap) k s h w1) := Lib.hid ⟨R1.1, R1.2⟩
  clear hb1 R1
  have x0 := D1.out.d.c0
  have CD := Classical.em (dchk L k s h = 0 ∧ ns.length = L.length)
  rcases CD with ⟨c, ln⟩ | cb
  · have c' : (dchk L k s h != 0) = false := by simp [c]
    have l' : ((ns.length : Int) != (L.length : Int)) = false := by simp [ln]
    have CC := Lib.hid c
    have LN := Lib.hid ln
    have rk := Lib.hid (dchk_rank c)
    obtain ⟨b, o, rfl, hb, hcell⟩ := HC.out.resolve_left (by have := rk.out; omega)
    obtain ⟨bi, oi, rfl, hbi, hicell⟩ := HIC.out.resolve_left (by have := rk.out; omega)
    have CL := Lib.hid hcell
    have CI := Lib.hid hicell
    clear c ln hcell hicell HC HIC
    have n2 : (L.length : Int) ≤ 2 := by have := rk.out; omega
    go_wp2_with fail
    go_loopg [6, 7, 8, 9, 10, 25] (L.length + 1) (fun gh v6 _ _ _ _ v25 wr => ∃ j : Nat, v25 = .int .i64 j ∧ v6 = .int .i64 (posP L ns j) ∧ (j ≤ L.length ∧ L.length - j < gh) ∧ Hid (posOk L ns j = true) ∧ Hid (DSt w (.slice (some ⟨b, o, none⟩) L.length cap) k s h wr))
    case atStart => exact ⟨0, rfl, rfl, ⟨by omega, by omega⟩, Lib.hid rfl, D1⟩
    case round =>
      obtain ⟨j, rfl, rfl, ⟨j0, jg⟩, hp, D2⟩ := hrel
      have KG := Lib.hid jg
      clear jg
      by_cases hj : j < L.length
      · have hj2 : j < ns.length := by have := LN.out; omega
        have jw : IntKind.i64.wrap ((j : Int) + 1) = (j : Int) + 1 := IntWalk.i64_in _ (by omega)
        have m2 : (ns.length : Int) ≤ 2 := by have := LN.out; omega
        obtain ⟨x, hx⟩ : ∃ x, L[j]? = some x := ⟨L[j], List.getElem?_eq_getElem hj⟩
        obtain ⟨n, hn⟩ : ∃ n, ns[j]? = some n := ⟨ns[j], List.getElem?_eq_getElem hj2⟩
        obtain ⟨q0, q1, q2⟩ := CL.out j x hx
        have NI := Lib.hid (CI.out j n hn)
        have ox := HL.out x (List.mem_of_getElem? hx)
        have on := HN.out n (List.mem_of_getElem? hn)
        have FX := Lib.hid hx
        have FN := Lib.hid hn
        clear hx hn
        have p0 := (D2.out.below.cell (p := ⟨b, o + j * 3, none⟩) hb).trans q0
        have p1 := (D2.out.below.cell (p := ⟨b, o + j * 3 + 1, none⟩) hb).trans q1
        have p2 := (D2.out.below.cell (p := ⟨b, o + j * 3 + 2, none⟩) hb).trans q2
        clear q0 q1 q2
        go_upto_region 7 with fail
        have D3 := Lib.hid (D2.out.keep (below_new wr (.cells #[.int .i64 x.1, .int .i64 x.2.1, .int .i64 x.2.2] 23)))
        have X3 := B3.new (.int .i64 x.1) (.int .i64 x.2.1) (.int .i64 x.2.2) 23 wr
        clear p0 p1 p2 D2
        generalize wr.alloc (.cells #[.int .i64 x.1, .int .i64 x.2.1, .int .i64 x.2.2] 23) = w3 at *
        generalize wr.heap.size = xb at *
        refine wp_region_held_drew (S := (fun w' => DSt w (.slice (some ⟨b, o, none⟩) L.length cap) k s h w' ∧ B3 xb (.int .i64 x.1) (.int .i64 x.2.1) (.int .i64 x.2.2) w')) (by kernel_rfl) ⟨D3.out.keep (to_drew (Below.refl _ _)), X3.keep (to_drew (Below.refl _ _))⟩ (fun hHeld => ?_)
        clear D3 X3
        obtain ⟨v0, hv0⟩ : ∃ v0, v0 = w3.drew := ⟨_, rfl⟩
        rw [← hv0] at hHeld ⊢
        clear hv0
        refine wpAnyH_take (i := 0) (oi := { dst := some 31, op := Op.load 23 (Operand.tmp 8), type := 23, pos := "domain.go:114", after := #[], guard := none }) (v := ?_) rfl (by kernel_rfl) (by kernel_rfl) (by kernel_rfl) (fun _ _ _ h => h) (Or.inl ⟨by rfl, ?_⟩) (by assumption) ?_
        rotate_left
        · (intro wq hSw; (try dsimp only at hSw); have a0 := hSw.2.c0; have a1 := hSw.2.c1; have a2 := hSw.2.c2; have n0 := (hSw.1.below.cell (p := ⟨bi, oi + j, none⟩) hbi).trans NI.out; clear hSw; go_simp; first | done | with_reducible rfl)
        try simp only [Act.put, List.setIfInBounds_toArray, List.set_cons_zero, List.set_cons_succ]
        refine wpAnyH_take (i := 1) (oi := { dst := some 32, op := Op.move (Operand.tmp 1), type := 48, pos := "domain.go:114", after := #[], guard := none }) (v := ?_) rfl (by kernel_rfl) (by kernel_rfl) (by kernel_rfl) (fun _ _ _ h => h) (Or.inl ⟨by rfl, ?_⟩) (by assumption) ?_
        rotate_left
        · (intro wq hSw; (try dsimp only at hSw); have a0 := hSw.2.c0; have a1 := hSw.2.c1; have a2 := hSw.2.c2; have n0 := (hSw.1.below.cell (p := ⟨bi, oi + j, none⟩) hbi).trans NI.out; clear hSw; go_simp; first | done | with_reducible rfl)
        try simp only [Act.put, List.setIfInBounds_toArray, List.set_cons_zero, List.set_cons_succ]
        refine wpAnyH_take (i := 2) (oi := { dst := some 33, op := Op.move (Operand.tmp 7), type := 3, pos := "domain.go:114", after := #[], guard := none }) (v := ?_) rfl (by kernel_rfl) (by kernel_rfl) (by kernel_rfl) (fun _ _ _ h => h) (Or.inl ⟨by rfl, ?_⟩) (by assumption) ?_
        rotate_left
        · (intro wq hSw; (try dsimp only at hSw); have a0 := hSw.2.c0; have a1 := hSw.2.c1; have a2 := hSw.2.c2; have n0 := (hSw.1.below.cell (p := ⟨bi, oi + j, none⟩) hbi).trans NI.out; clear hSw; go_simp; first | done | with_reducible rfl)
        try simp only [Act.put, List.setIfInBounds_toArray, List.set_cons_zero, List.set_cons_succ]
        refine wpAnyH_take (i := 3) (oi := { dst := some 34, op := Op.indexAddr 48 (Operand.tmp 32) (Operand.tmp 33), type := 0, pos := "domain.go:114", after := #[{ on := 1, ground := Ground.data }, { on := 2, ground := Ground.data }], guard := none }) (v := ?_) rfl (by kernel_rfl) (by kernel_rfl) (by kernel_rfl) (fun _ _ _ h => h) (Or.inl ⟨by rfl, ?_⟩) (by assumption) ?_
        rotate_left
        · (intro wq hSw; (try dsimp only at hSw); have a0 := hSw.2.c0; have a1 := hSw.2.c1; have a2 := hSw.2.c2; have n0 := (hSw.1.below.cell (p := ⟨bi, oi + j, none⟩) hbi).trans NI.out; clear hSw; go_simp; first | done | with_reducible rfl)
        try simp only [Act.put, List.setIfInBounds_toArray, List.set_cons_zero, List.set_cons_succ]
        refine wpAnyH_take (i := 4) (oi := { dst := some 35, op := Op.load 3 (Operand.tmp 34), type := 3, pos := "domain.go:114", after := #[{ on := 3, ground := Ground.data }], guard := none }) (v := ?_) rfl (by kernel_rfl) (by kernel_rfl) (by kernel_rfl) (fun _ _ _ h => h) (Or.inl ⟨by rfl, ?_⟩) (by assumption) ?_
        rotate_left
        · (intro wq hSw; (try dsimp only at hSw); have a0 := hSw.2.c0; have a1 := hSw.2.c1; have a2 := hSw.2.c2; have n0 := (hSw.1.below.cell (p := ⟨bi, oi + j, none⟩) hbi).trans NI.out; clear hSw; go_simp; first | done | with_reducible rfl)
        try simp only [Act.put, List.setIfInBounds_toArray, List.set_cons_zero, List.set_cons_succ]
        refine wpAnyH_ready (rs := [5]) (by kernel_rfl) (by simp) ?_
        refine AllReadyH.cons (o := { dst := some 36, op := Op.call { callee := Callee.value (Operand.func 24), args := #[Operand.tmp 31, Operand.tmp 35], argTypes := #[23, 3] }, type := 29, pos := "domain.go:114", after := #[{ on := 0, ground := Ground.data }, { on := 4, ground := Ground.data }], guard := none }) rfl (fun K hK => ?_) AllReadyH.nil
        go_simp
        refine (Position_any x.1 x.2.1 x.2.2 n _ ox.1 ox.2.1 ox.2.2 on).mono ?_
        rintro e v1 ⟨rfl, hq⟩
        have hq : Below v0.heap.size v0 v1 := ⟨hq.os, hq.tape, hq.output, hq.size, hq.block⟩
        have hS := And.intro (hHeld.1.keep hq) (hHeld.2.keep hq)
        go_wp2_with fail
        refine hK.out _ _ hS (fun hHeld => ?_)
        clear hK K hHeld
        clear hq
        have hHeld := hS
        clear hS
        try simp only [Act.put, List.setIfInBounds_toArray, List.set_cons_zero, List.set_cons_succ]
        refine wpAnyH_take (i := 6) (oi := { dst := some 30, op := Op.move (Operand.tmp 36), type := 29, pos := "domain.go:114", after := #[{ on := 5, ground := Ground.data }], guard := none }) (v := ?_) rfl (by kernel_rfl) (by kernel_rfl) (by kernel_rfl) (fun _ _ _ h => h) (Or.inl ⟨by rfl, ?_⟩) (by assumption) ?_
        rotate_left
        · (intro wq hSw; (try dsimp only at hSw); have a0 := hSw.2.c0; have a1 := hSw.2.c1; have a2 := hSw.2.c2; have n0 := (hSw.1.below.cell (p := ⟨bi, oi + j, none⟩) hbi).trans NI.out; clear hSw; go_simp; first | done | with_reducible rfl)
        try simp only [Act.put, List.setIfInBounds_toArray, List.set_cons_zero, List.set_cons_succ]
        refine wpAnyH_take (i := 7) (oi := { dst := some 37, op := Op.extract (Operand.tmp 30) 0, type := 3, pos := "domain.go:114", after := #[{ on := 6, ground := Ground.data }], guard := none }) (v := ?_) rfl (by kernel_rfl) (by kernel_rfl) (by kernel_rfl) (fun _ _ _ h => h) (Or.inl ⟨by rfl, ?_⟩) (by assumption) ?_
        rotate_left
        · (intro wq hSw; (try dsimp only at hSw); have a0 := hSw.2.c0; have a1 := hSw.2.c1; have a2 := hSw.2.c2; have n0 := (hSw.1.below.cell (p := ⟨bi, oi + j, none⟩) hbi).trans NI.out; clear hSw; go_simp; first | done | with_reducible rfl)
        try simp only [Act.put, List.setIfInBounds_toArray, List.set_cons_zero, List.set_cons_succ]
        refine wpAnyH_take (i := 8) (oi := { dst := some 38, op := Op.extract (Operand.tmp 30) 1, type := 4, pos := "domain.go:114", after := #[{ on := 6, ground := Ground.data }, { on := 9, ground := Ground.gcOnly Departure.lateStores }], guard := none }) (v := ?_) rfl (by kernel_rfl) (by kernel_rfl) (by kernel_rfl) (fun _ _ _ h => h) (Or.inl ⟨by rfl, ?_⟩) (by assumption) ?_
        rotate_left
        · (intro wq hSw; (try dsimp only at hSw); have a0 := hSw.2.c0; have a1 := hSw.2.c1; have a2 := hSw.2.c2; have n0 := (hSw.1.below.cell (p := ⟨bi, oi + j, none⟩) hbi).trans NI.out; clear hSw; go_simp; first | done | with_reducible rfl)
        try simp only [Act.put, List.setIfInBounds_toArray, List.set_cons_zero, List.set_cons_succ]
        refine wpAnyH_take (i := 9) (oi := { dst := some 9, op := Op.assign (Operand.tmp 37), type := 3, pos := "domain.go:114", after := #[{ on := 7, ground := Ground.data }, { on := 5, ground := Ground.chain }, { on := 0, ground := Ground.phase }, { on := 1, ground := Ground.phase }, { on := 2, ground := Ground.phase }, { on := 3, ground := Ground.phase }, { on := 4, ground := Ground.phase }, { on := 5, ground := Ground.phase }, { on := 6, ground := Ground.phase }, { on := 7, ground := Ground.phase }, { on := 8, ground := Ground.textOnly Departure.lateStores }], guard := none }) (v := ?_) rfl (by kernel_rfl) (by kernel_rfl) (by kernel_rfl) (fun _ _ _ h => h) (Or.inl ⟨by rfl, ?_⟩) (by assumption) ?_
        rotate_left
        · (intro wq hSw; (try dsimp only at hSw); have a0 := hSw.2.c0; have a1 := hSw.2.c1; have a2 := hSw.2.c2; have n0 := (hSw.1.below.cell (p := ⟨bi, oi + j, none⟩) hbi).trans NI.out; clear hSw; go_simp; first | done | with_reducible rfl)
        try simp only [Act.put, List.setIfInBounds_toArray, List.set_cons_zero, List.set_cons_succ]
        refine wpAnyH_take (i := 10) (oi := { dst := some 10, op := Op.assign (Operand.tmp 38), type := 4, pos := "domain.go:114", after := #[{ on := 8, ground := Ground.data }, { on := 9, ground := Ground.chain }, { on := 0, ground := Ground.phase }, { on := 1, ground := Ground.phase }, { on := 2, ground := Ground.phase }, { on := 3, ground := Ground.phase }, { on := 4, ground := Ground.phase }, { on := 5, ground := Ground.phase }, { on := 6, ground := Ground.phase }, { on := 7, ground := Ground.phase }, { on := 8, ground := Ground.phase }, { on := 9, ground := Ground.phase }], guard := none }) (v := ?_) rfl (by kernel_rfl) (by kernel_rfl) (by kernel_rfl) (fun _ _ _ h => h) (Or.inl ⟨by rfl, ?_⟩) (by assumption) ?_
        rotate_left
        · (intro wq hSw; (try dsimp only at hSw); have a0 := hSw.2.c0; have a1 := hSw.2.c1; have a2 := hSw.2.c2; have n0 := (hSw.1.below.cell (p := ⟨bi, oi + j, none⟩) hbi).trans NI.out; clear hSw; go_simp; first | done | with_reducible rfl)
        try simp only [Act.put, List.setIfInBounds_toArray, List.set_cons_zero, List.set_cons_succ]
        refine wpAnyH_done (by kernel_rfl) ?_ _
        have D4 := Lib.hid hHeld.1
        have X4 := Lib.hid hHeld.2
        clear hHeld
        cases c : posB x.1 x.2.1 x.2.2 n
        · have O : Hid (posOk L ns (j + 1) = false) := Lib.hid (by rw [posOk_next FX.out FN.out hp.out, c])
          have E : Hid (dposB L k s h ns = false) := Lib.hid (by rw [dposB_good CC.out LN.out]; have := posOk_false O.out (L.length - (j + 1)); rwa [show j + 1 + (L.length - (j + 1)) = L.length by omega] at this)
          have EN : Hid (dposN L k s h ns = 0) := Lib.hid (dposN_no E.out)
          clear c
          go_wp2
          rw [E.out, EN.out]
          exact bodyPost_ret (v := .tuple #[.int .i64 0, .bool false]) (by simp [results, Try.results66, go_sem, *]) rfl ⟨rfl, D4.out.below⟩
        · have O : Hid (posOk L ns (j + 1) = true) := Lib.hid (by rw [posOk_next FX.out FN.out hp.out, c])
          have PN := Lib.hid (posP_next FX.out FN.out)
          have mb := mul_bdQ (posP_nonneg L ns j) (posP_one L ns (show j ≤ 1 by omega)) (siz_bdA x.1 x.2.1 x.2.2).1 (siz_bdA x.1 x.2.1 x.2.2).2
          have nb := posN_bd x.1 x.2.1 x.2.2 n
          have w1 : IntKind.i64.wrap (posP L ns j * siz x.1 x.2.1 x.2.2) = posP L ns j * siz x.1 x.2.1 x.2.2 := IntWalk.i64_in _ (by omega)
          have w2 : IntKind.i64.wrap (posP L ns j * siz x.1 x.2.1 x.2.2 + posN x.1 x.2.1 x.2.2 n) = posP L ns j * siz x.1 x.2.1 x.2.2 + posN x.1 x.2.1 x.2.2 n := IntWalk.i64_in _ (by omega)
          have a0 := X4.out.c0
          have a1 := X4.out.c1
          have a2 := X4.out.c2
          clear c mb nb
          go_wp2_with fail
          refine (Size_any x.1 x.2.1 x.2.2 _ ox.1 ox.2.1 ox.2.2).mono ?_
          rintro e w5 ⟨rfl, hb5⟩
          have D5 := Lib.hid (D4.out.keep hb5)
          clear hb5 D4 X4 a0 a1 a2
          go_wp2_with fail
          go_roundg (L.length - j)
          case measure => exact KG.out
          case rel => exact ⟨j + 1, by go_num, by rw [PN.out], ⟨by omega, by omega⟩, O, D5⟩
      · obtain rfl : j = L.length := by omega
        have E : Hid (dposB L k s h ns = true) := Lib.hid (by rw [dposB_good CC.out LN.out, hp.out])
        have EN : Hid (dposN L k s h ns = posP L ns L.length) := Lib.hid (dposN_yes E.out)
        clear hp
        go_wp2
        rw [E.out, EN.out]
        exact bodyPost_ret (v := .tuple #[.int .i64 (posP L ns L.length), .bool true]) (by simp [results, Try.results66, go_sem, *]) rfl ⟨rfl, D2.out.below⟩
  · have E : Hid (dposB L k s h ns = false) := Lib.hid (by
      by_cases c : dchk L k s h = 0
      · exact dposB_len (fun e => cb ⟨c, e⟩)
      · exact dposB_bad c)
    have EN : Hid (dposN L k s h ns = 0) := Lib.hid (dposN_no E.out)
    by_cases c : dchk L k s h = 0
    · have c' : (dchk L k s h != 0) = false := by simp [c]
      have l' : ((ns.length : Int) != (L.length : Int)) = true := by have : ¬ ns.length = L.length := fun e => cb ⟨c, e⟩; simp; omega
      clear c cb
      go_wp2
      rw [E.out, EN.out]
      exact bodyPost_ret (v := .tuple #[.int .i64 0, .bool false]) (by simp [results, Try.results66, go_sem, *]) rfl ⟨rfl, D1.out.below⟩
    · have c' : (dchk L k s h != 0) = true := by simp [c]
      clear c cb
      go_wp2
      rw [E.out, EN.out]
      exact bodyPost_ret (v := .tuple #[.int .i64 0, .bool false]) (by simp [results, Try.results66, go_sem, *]) rfl ⟨rfl, D1.out.below⟩
end Go.Proofs.Ytcpeailodgoilaa
namespace Go.Proofs.Ytcpeailodgoilaa
open Go.RowKit
set_option maxRecDepth 100000 in
set_option maxHeartbeats 3200000 in
theorem iwith_any (dv : Value) (k s h : Int) (b o cap : Nat) (X : List R3) (w : World) (hb : b < w.heap.size) (hc : Hid (At3 w b o X)) (hn : X.length ≤ 1000) (hd : ∃ a n c, dv = .slice a n c) :
    Calls Try.prog 246 #[.agg #[dv, .int .i64 k, .int .i64 s, .int .i64 h], .slice (some ⟨b, o, none⟩) X.length cap] w (DWithRet X k s h w) := by
  obtain ⟨da, dn, dc, rfl⟩ := hd
  have R0 := res44a w 62 (.slice da dn dc) (.int .i64 k) (.int .i64 s) (.int .i64 h) (.slice none 0 0) (.int .i64 0) (.int .i64 0) (.int .i64 0)
  go_enter Try.func246, Try.ntmps246
  go_upto_region 1 with fail
  generalize (w.alloc (.cells #[.slice da dn dc, .int .i64 k, .int .i64 s, .int .i64 h] 62)).alloc (.cells #[.slice none 0 0, .int .i64 0, .int .i64 0, .int .i64 0] 62) = w1 at *
  have B1 := Lib.hid R0.1
  have D1 := Lib.hid R0.2.1
  have Z1 := Lib.hid R0.2.2
  have d1 := D1.out.c1
  have d2 := D1.out.c2
  have d3 := D1.out.c3
  clear R0
  refine wp_region_held_drew (S := (fun w' => w'.cell? ⟨w.heap.size, 1, none⟩ = some (.int .i64 k) ∧ w'.cell? ⟨w.heap.size, 2, none⟩ = some (.int .i64 s) ∧ w'.cell? ⟨w.heap.size, 3, none⟩ = some (.int .i64 h))) (by kernel_rfl) ?_ (fun hHeld => ?_)
  · first | exact hHeld | exact ⟨d1, d2, d3⟩ | (obtain ⟨q0, q1, q2⟩ := hHeld; refine ⟨?_, ?_, ?_⟩ <;> simp [go_sem, *]; done) | go_keep
  refine wpAnyH_take (i := 0) (oi := { dst := some 5, op := Op.move (Operand.tmp 1), type := 40, pos := "irregular.go:107", after := #[], guard := none }) (v := ?_) rfl (by kernel_rfl) (by kernel_rfl) (by kernel_rfl) (fun _ _ _ h => h) (Or.inl ⟨by rfl, ?_⟩) (by assumption) ?_
  rotate_left
  · (intro w hSw; (try dsimp only at hSw); go_simp; first | done | with_reducible rfl)
  try simp only [Act.put, List.setIfInBounds_toArray, List.set_cons_zero, List.set_cons_succ]
  refine wpAnyH_take (i := 2) (oi := { dst := some 7, op := Op.fieldAddr 62 (Operand.tmp 2) 1, type := 0, pos := "irregular.go:107", after := #[], guard := none }) (v := ?_) rfl (by kernel_rfl) (by kernel_rfl) (by kernel_rfl) (fun _ _ _ h => h) (Or.inl ⟨by rfl, ?_⟩) (by assumption) ?_
  rotate_left
  · (intro w hSw; (try dsimp only at hSw); go_simp; first | done | with_reducible rfl)
  try simp only [Act.put, List.setIfInBounds_toArray, List.set_cons_zero, List.set_cons_succ]
  refine wpAnyH_take (i := 3) (oi := { dst := some 8, op := Op.load 60 (Operand.tmp 7), type := 60, pos := "irregular.go:107", after := #[{ on := 2, ground := Ground.data }], guard := none }) (v := ?_) rfl (by kernel_rfl) (by kernel_rfl) (by kernel_rfl) (fun _ _ _ h => h) (Or.inl ⟨by rfl, ?_⟩) (by assumption) ?_
  rotate_left
  · (intro w hSw; (try dsimp only at hSw); go_simp; first | done | with_reducible rfl)
  try simp only [Act.put, List.setIfInBounds_toArray, List.set_cons_zero, List.set_cons_succ]
  refine wpAnyH_ready (rs := [1]) (by kernel_rfl) (by simp) ?_
  refine AllReadyH.cons (o := { dst := some 6, op := Op.call { callee := Callee.value (Operand.func 219), args := #[Operand.tmp 5], argTypes := #[40] }, type := 40, pos := "irregular.go:107", after := #[{ on := 0, ground := Ground.data }], guard := none }) rfl (fun K hK => ?_) AllReadyH.nil
  go_simp
  refine (cloneR_any b o cap X _ (Nat.lt_of_lt_of_le hb (to_drew B1.out).size) (Lib.hid (hc.out.under (to_drew B1.out) hb)) hn).mono ?_
  rintro e w2 ⟨v', rfl, own, hb2'⟩
  have hb2 : Below w1.heap.size w1 w2 := ⟨hb2'.os, hb2'.tape, hb2'.output, hb2'.size, hb2'.block⟩
  have B2 := Lib.hid (B1.out.trans (hb2.mono B1.out.size))
  have D2 := Lib.hid (D1.out.keep hb2)
  have Z2 := Lib.hid (Z1.out.keep hb2)
  have OW : Hid (w2.ownsRow w1.heap.size 23 3 v' X.length (cells3 X)) := own
  obtain ⟨ra, rc, rfl⟩ := owns_slice OW.out
  have e1 := D2.out.c1
  have e2 := D2.out.c2
  have e3 := D2.out.c3
  have z0 := Z2.out.c0
  have z1 := Z2.out.c1
  have z2 := Z2.out.c2
  have z3 := Z2.out.c3
  have f0 := Z2.out.f0
  have f1 := Z2.out.f1
  have f2 := Z2.out.f2
  have f3 := Z2.out.f3
  clear hb2 hb2' own
  go_wp2_with fail
  refine hK.out _ _ ?_ (fun hHeld1 => ?_)
  · exact ⟨e1, e2, e3⟩
  clear hK K hHeld
  have hHeld := hHeld1
  clear hHeld1
  try simp only [Act.put, List.setIfInBounds_toArray, List.set_cons_zero, List.set_cons_succ]
  refine wpAnyH_take (i := 4) (oi := { dst := some 9, op := Op.build 62 #[(0, Operand.tmp 6), (1, Operand.tmp 8)], type := 62, pos := "irregular.go:107", after := #[{ on := 1, ground := Ground.data }, { on := 3, ground := Ground.data }], guard := none }) (v := ?_) rfl (by kernel_rfl) (by kernel_rfl) (by kernel_rfl) (fun _ _ _ h => h) (Or.inl ⟨by rfl, ?_⟩) (by assumption) ?_
  rotate_left
  · (intro w hSw; (try dsimp only at hSw); go_simp; first | done | with_reducible rfl)
  try simp only [Act.put, List.setIfInBounds_toArray, List.set_cons_zero, List.set_cons_succ]
  refine wpAnyH_ready (rs := [5]) (by kernel_rfl) (by simp) ?_
  refine AllReadyH.cons (o := { dst := none, op := Op.store 62 (Operand.tmp 4) (Operand.tmp 9), type := 0, pos := "irregular.go:107", after := #[{ on := 4, ground := Ground.data }, { on := 1, ground := Ground.chain }, { on := 0, ground := Ground.phase }, { on := 1, ground := Ground.phase }, { on := 2, ground := Ground.phase }, { on := 3, ground := Ground.phase }, { on := 4, ground := Ground.phase }], guard := none }) rfl (fun K hK => ?_) AllReadyH.nil
  go_simp
  refine hK.out _ _ ?_ (fun hHeld5 => ?_)
  · first | exact hHeld | exact ⟨d1, d2, d3⟩ | (obtain ⟨q0, q1, q2⟩ := hHeld; refine ⟨?_, ?_, ?_⟩ <;> simp [go_sem, *]; done) | go_keep
  clear hK K hHeld
  have hHeld := hHeld5
  clear hHeld5
  try simp only [Act.put, List.setIfInBounds_toArray, List.set_cons_zero, List.set_cons_succ]
  refine wpAnyH_done (by kernel_rfl) ?_ _

  have s1 := B1.out.size
  have s2 := Z1.out.size
  clear hHeld
  go_wp2
  refine bodyPost_ret (v := .agg #[.slice ra X.length rc, .int .i64 k, .int .i64 s, .int .i64 h]) (by simp [results, Try.results246, go_sem, *]) rfl ⟨_, rfl, Lib.hid ?_, ?_⟩
  · refine owns_base (base := w1.heap.size) ?_ s1
    repeat (first | exact OW.out | refine ownsRow_setCell_below ?_ (by simp; try omega) _)
  · repeat (first | exact B2.out | refine Below.setCell ?_ (by simp; try omega) _)
/-- the error of a parent -/
def cpE (L : List R3) (k s h : Int) : Int := if dchk L k s h = 0 then (if 1000000 < prodL L then 7 else 0) else dchk L k s h
set_option maxRecDepth 100000 in
set_option maxHeartbeats 3200000 in
theorem checkParent_any (v : Value) (L : List R3) (k s h : Int) (w : World) (hr : Rd w v L) (hL : Ok3 L) :
    Calls Try.prog 232 #[.agg #[v, .int .i64 k, .int .i64 s, .int .i64 h]] w fun e w' => e = .returned (.int .i64 (cpE L k s h)) ∧ Below w.heap.size w w' := by
  have HL := Lib.hid hL
  have HR : Hid (Rd w v L) := Lib.hid hr
  obtain ⟨od, cd, rfl, _⟩ := hr
  clear hL
  go_enter Try.func232, Try.ntmps232
  go_wp2_with fail
  refine (Dcheck_any _ L k s h _ (HR.out.keep (below_new _ _)) HL.out).mono ?_
  rintro e w1 ⟨rfl, hb1⟩
  have R1 := resD hb1
  have D1 : Hid (DSt w (.slice od L.length cd) k s h w1) := Lib.hid ⟨R1.1, R1.2⟩
  clear hb1 R1
  by_cases c : dchk L k s h = 0
  · rw [c]
    have C := Lib.hid c
    have DS : Hid (dsiz L k s h = prodL L) := Lib.hid (if_pos c)
    clear c
    have d0 := D1.out.d.c0
    have d1 := D1.out.d.c1
    have d2 := D1.out.d.c2
    have d3 := D1.out.d.c3
    go_wp2_with fail
    refine (Dsize_any _ L k s h _ (HR.out.keep D1.out.below) HL.out).mono ?_
    rintro e w2 ⟨rfl, hb2⟩
    rw [DS.out]
    have D2 := Lib.hid (D1.out.keep hb2)
    clear hb2 D1 d0 d1 d2 d3
    by_cases big : 1000000 < prodL L
    · have E : Hid (cpE L k s h = 7) := Lib.hid (by unfold cpE; rw [if_pos C.out, if_pos big])
      go_wp2
      exact bodyPost_ret (v := .int .i64 7) (by simp [results, Try.results232, go_sem, *]) rfl ⟨by rw [E.out], D2.out.below⟩
    · have E : Hid (cpE L k s h = 0) := Lib.hid (by unfold cpE; rw [if_pos C.out, if_neg big])
      go_wp2
      exact bodyPost_ret (v := .int .i64 0) (by simp [results, Try.results232, go_sem, *]) rfl ⟨by rw [E.out], D2.out.below⟩
  · have E : Hid (cpE L k s h = dchk L k s h) := Lib.hid (if_neg c)
    generalize dchk L k s h = er at *
    have c2 : (er != 0) = true := by simp [c]
    go_wp2
    exact bodyPost_ret (v := .int .i64 er) (by simp [results, Try.results232, go_sem, *]) rfl ⟨by rw [E.out], D1.out.below⟩
/-- whether numbers ascend from one on, below an end -/
def ascF (en : Int) : Int → List Int → Bool
  | _, [] => true
  | p, n :: l => if n ≤ p then false else if en ≤ n then false else ascF en n l
set_option maxRecDepth 100000 in
set_option maxHeartbeats 3200000 in
theorem ascending_any (iv : Value) (xs : List Int) (en : Int) (w : World) (hi : Ri w iv xs) (hl : xs.length ≤ 100000) :
    Calls Try.prog 247 #[iv, .int .i64 en] w fun e w' => e = .returned (.bool (ascF en (-1) xs)) ∧ w = w' := by
  obtain ⟨ai, ci, rfl, hci⟩ := hi
  have HC := Lib.hid hci
  clear hci
  go_enter Try.func247, Try.ntmps247
  go_wp2_with fail
  go_loopg [5, 7, 10] (xs.length + 1) (fun gh v5 _ v10 wr => ∃ (j : Nat) (p : Int), v10 = .int .i64 j ∧ v5 = .int .i64 p ∧ (j ≤ xs.length ∧ xs.length - j < gh) ∧ Hid (ascF en (-1) xs = ascF en p (xs.drop j)) ∧ wr = w)
  case atStart => exact ⟨0, -1, rfl, rfl, ⟨by omega, by omega⟩, Lib.hid rfl, rfl⟩
  case round =>
    obtain ⟨j, p, rfl, rfl, ⟨j0, jg⟩, hE, rfl⟩ := hrel
    have KG := Lib.hid jg
    clear jg
    by_cases hj : j < xs.length
    · obtain ⟨n, hn⟩ : ∃ n, xs[j]? = some n := ⟨xs[j], List.getElem?_eq_getElem hj⟩
      obtain ⟨b, o, rfl, _, cs⟩ := HC.out.resolve_left (by omega)
      have p0 := cs j n hn
      have ST : Hid (ascF en (-1) xs = if n ≤ p then false else if en ≤ n then false else ascF en n (xs.drop (j + 1))) := Lib.hid (by
        obtain ⟨lt, e⟩ := List.getElem?_eq_some_iff.1 hn
        rw [hE.out, List.drop_eq_getElem_cons lt, e]
        rfl)
      have jw : IntKind.i64.wrap ((j : Int) + 1) = (j : Int) + 1 := IntWalk.i64_in _ (by omega)
      clear hn cs hE
      by_cases c1 : n ≤ p
      · have E := Lib.hid (ST.out.trans (if_pos c1))
        go_wp2
        exact bodyPost_ret (v := .bool false) (by simp [results, Try.results247, go_sem, *]) rfl ⟨by rw [E.out], rfl⟩
      · have ST := Lib.hid (ST.out.trans (if_neg c1))
        by_cases c2 : en ≤ n
        · have E := Lib.hid (ST.out.trans (if_pos c2))
          go_wp2
          exact bodyPost_ret (v := .bool false) (by simp [results, Try.results247, go_sem, *]) rfl ⟨by rw [E.out], rfl⟩
        · have E := Lib.hid (ST.out.trans (if_neg c2))
          go_wp2_with fail
          go_roundg (xs.length - j)
          case measure => exact KG.out
          case rel => exact ⟨j + 1, n, by go_num, rfl, ⟨by omega, by omega⟩, E, rfl⟩
    · have E : Hid (ascF en (-1) xs = true) := Lib.hid (by rw [hE.out, List.drop_eq_nil_of_le (by omega)]; rfl)
      go_wp2
      exact bodyPost_ret (v := .bool true) (by simp [results, Try.results247, go_sem, *]) rfl ⟨by rw [E.out], rfl⟩
theorem Try.infoPair' : (Try.prog.info? 87).map (fun i => (i.zero, i.size, i.bytes)) = some (some (.agg #[.int .i64 0, .int .i64 0]), 2, 16) := by kernel_rfl
set_option maxRecDepth 100000 in
set_option maxHeartbeats 3200000 in
theorem pair_any (iv : Value) (a b : Int) (w : World) (hi : Ri w iv [a, b]) :
    Calls Try.prog 233 #[iv] w fun e w' => e = .returned (.agg #[.int .i64 a, .int .i64 b]) ∧ Below w.heap.size w w' := by
  obtain ⟨i0, hi0, hz0, hz1, hz2⟩ := info_parts Try.infoPair'
  obtain ⟨ai, ci, rfl, hci⟩ := hi
  obtain ⟨g, o, rfl, z, q⟩ := hci.resolve_left (by simp)
  have q0 := q 0 a rfl
  have q1 := q 1 b rfl
  have nb := Lib.hid (below_new w (.cells #[.int .i64 0, .int .i64 0] 87))
  have p0 : (w.alloc (.cells #[.int .i64 0, .int .i64 0] 87)).cell? ⟨g, o, none⟩ = some (.int .i64 a) := (nb.out.cell (p := ⟨g, o, none⟩) z).trans q0
  have p1 : (w.alloc (.cells #[.int .i64 0, .int .i64 0] 87)).cell? ⟨g, o + 1, none⟩ = some (.int .i64 b) := (nb.out.cell (p := ⟨g, o + 1, none⟩) z).trans q1
  have hat : ∀ w, (Instr.arrayAt 87 (.slice (some ⟨g, o, none⟩) 2 ci)).run Try.prog w = .ok (.pointer (some ⟨g, o, none⟩)) w := fun w => run_arrayAt w 87 3 2 _ 2 ci Try.underlying87 (by omega)
  have x0 : (w.alloc (.cells #[.int .i64 0, .int .i64 0] 87)).cell? ⟨w.heap.size, 0, none⟩ = some (.int .i64 0) := by simp [go_sem]
  clear q q0 q1 hci
  change Calls _ _ #[.slice (some ⟨g, o, none⟩) 2 ci] _ _
  go_enter Try.func233, Try.ntmps233
  go_wp2
  refine bodyPost_ret (v := .agg #[.int .i64 a, .int .i64 b]) (by simp [results, Try.results233, go_sem, *]) rfl ⟨rfl, ?_⟩
  first | exact below_new _ _ | (repeat (first | exact nb.out | refine Below.setCell ?_ (by simp; try omega) _))
end Go.Proofs.Ytcpeailodgoilaa
namespace Go.Proofs.Ytcpeailodgoilaa
open Go.RowKit
/-- a block of a sparse domain -/
structure Blk5 (g : Nat) (a b c d e : Value) (w : World) : Prop where
  size : g < w.heap.size
  c0 : w.cell? ⟨g, 0, none⟩ = some a
  c1 : w.cell? ⟨g, 1, none⟩ = some b
  c2 : w.cell? ⟨g, 2, none⟩ = some c
  c3 : w.cell? ⟨g, 3, none⟩ = some d
  c4 : w.cell? ⟨g, 4, none⟩ = some e
theorem Blk5.keep {g : Nat} {a b c d e : Value} {w w1 : World} (k : Blk5 g a b c d e w) (hb : Below w.heap.size w w1) : Blk5 g a b c d e w1 :=
  ⟨Nat.lt_of_lt_of_le k.size hb.size, (hb.cell (p := ⟨g, 0, none⟩) k.size).trans k.c0, (hb.cell (p := ⟨g, 1, none⟩) k.size).trans k.c1, (hb.cell (p := ⟨g, 2, none⟩) k.size).trans k.c2, (hb.cell (p := ⟨g, 3, none⟩) k.size).trans k.c3, (hb.cell (p := ⟨g, 4, none⟩) k.size).trans k.c4⟩
theorem Blk5.new (a b c d e : Value) (t : TypeId) (w : World) : Blk5 w.heap.size a b c d e (w.alloc (.cells #[a, b, c, d, e] t)) := by
  constructor <;> simp [go_sem]
/-- the error of a sparse domain -/
def schkE (L : List R3) (k s h : Int) (xs : List Int) : Int := if cpE L k s h = 0 then (if 5000 < xs.length then 5 else if ascF (prodL L) (-1) xs = true then 0 else 51) else cpE L k s h
theorem cp_zero {L : List R3} {k s h : Int} (c : cpE L k s h = 0) : dchk L k s h = 0 := by
  unfold cpE at c
  split at c
  · assumption
  · exact c
set_option maxRecDepth 100000 in
set_option maxHeartbeats 6400000 in
theorem icheck_any (v : Value) (L : List R3) (k s h : Int) (av : Value) (xs : List Int) (w : World) (hr : Rd w v L) (hL : Ok3 L) (ha : Ri w av xs) (hl : xs.length ≤ 100000) :
    Calls Try.prog 235 #[.agg #[v, .int .i64 k, .int .i64 s, .int .i64 h, av]] w fun e w' => e = .returned (.int .i64 (schkE L k s h xs)) ∧ Below w.heap.size w w' := by
  have HL := Lib.hid hL
  have HR : Hid (Rd w v L) := Lib.hid hr
  have HA : Hid (Ri w av xs) := Lib.hid ha
  obtain ⟨od, cd, rfl, _⟩ := hr
  obtain ⟨oi, ci, rfl, _⟩ := ha
  have B0 := Lib.hid (below_new w (.cells #[.slice od L.length cd, .int .i64 k, .int .i64 s, .int .i64 h, .slice oi xs.length ci] 175))
  have D0 := Lib.hid (Blk5.new (.slice od L.length cd) (.int .i64 k) (.int .i64 s) (.int .i64 h) (.slice oi xs.length ci) 175 w)
  clear hL
  go_enter Try.func235, Try.ntmps235
  go_upto_region 1 with fail
  generalize w.alloc (.cells #[.slice od L.length cd, .int .i64 k, .int .i64 s, .int .i64 h, .slice oi xs.length ci] 175) = u0 at *
  have c0 := D0.out.c0
  have c1 := D0.out.c1
  have c2 := D0.out.c2
  have c3 := D0.out.c3
  have c4 := D0.out.c4
  go_wp2_with fail
  refine (checkParent_any _ L k s h _ (HR.out.keep B0.out) HL.out).mono ?_
  rintro e u1 ⟨rfl, hb⟩
  have B1 := Lib.hid (B0.out.trans (hb.mono B0.out.size))
  have D1 := Lib.hid (D0.out.keep hb)
  clear hb B0 D0 c0 c1 c2 c3 c4
  by_cases cp : cpE L k s h = 0
  · rw [cp]
    have CP := Lib.hid cp
    have DS : Hid (dsiz L k s h = prodL L) := Lib.hid (if_pos (cp_zero cp))
    clear cp
    have B2 := B1
    have D2 := D1
    have c4 := D1.out.c4
    clear B1 D1
    by_cases big : 5000 < xs.length
    · have b' : (5000 : Int) < (xs.length : Int) := by omega
      have E : Hid (schkE L k s h xs = 5) := Lib.hid (by unfold schkE; rw [if_pos CP.out, if_pos big])
      clear big
      go_wp2
      exact bodyPost_ret (v := .int .i64 5) (by simp [results, Try.results235, go_sem, *]) rfl ⟨by rw [E.out], B2.out⟩
    · have b' : ¬ (5000 : Int) < (xs.length : Int) := by omega
      have BG := Lib.hid big
      clear big
      go_upto_region 6 with fail
      clear c4
      refine wp_region_held_drew (S := (fun w' => Below u1.heap.size u1 w')) (by kernel_rfl) (to_drew (Below.refl _ _)) (fun hHeld => ?_)
      obtain ⟨v0, hv0⟩ : ∃ v0, v0 = u1.drew := ⟨_, rfl⟩
      rw [← hv0] at hHeld ⊢
      clear hv0
      refine wpAnyH_take (i := 0) (oi := { dst := some 14, op := Op.fieldAddr 175 (Operand.tmp 1) 1, type := 0, pos := "irregular.go:36", after := #[], guard := none }) (v := ?_) rfl (by kernel_rfl) (by kernel_rfl) (by kernel_rfl) (fun _ _ _ h => h) (Or.inl ⟨by rfl, ?_⟩) (by assumption) ?_
      rotate_left
      · (intro wq hSw; (try dsimp only at hSw); have K := D2.out.keep hSw; have c0 := K.c0; have c1 := K.c1; have c2 := K.c2; have c3 := K.c3; have c4 := K.c4; clear K; clear hSw; go_simp; first | done | with_reducible rfl)
      try simp only [Act.put, List.setIfInBounds_toArray, List.set_cons_zero, List.set_cons_succ]
      refine wpAnyH_take (i := 1) (oi := { dst := some 15, op := Op.load 48 (Operand.tmp 14), type := 48, pos := "irregular.go:36", after := #[{ on := 0, ground := Ground.data }], guard := none }) (v := ?_) rfl (by kernel_rfl) (by kernel_rfl) (by kernel_rfl) (fun _ _ _ h => h) (Or.inl ⟨by rfl, ?_⟩) (by assumption) ?_
      rotate_left
      · (intro wq hSw; (try dsimp only at hSw); have K := D2.out.keep hSw; have c0 := K.c0; have c1 := K.c1; have c2 := K.c2; have c3 := K.c3; have c4 := K.c4; clear K; clear hSw; go_simp; first | done | with_reducible rfl)
      try simp only [Act.put, List.setIfInBounds_toArray, List.set_cons_zero, List.set_cons_succ]
      refine wpAnyH_take (i := 2) (oi := { dst := some 16, op := Op.fieldAddr 175 (Operand.tmp 1) 0, type := 0, pos := "irregular.go:36", after := #[], guard := none }) (v := ?_) rfl (by kernel_rfl) (by kernel_rfl) (by kernel_rfl) (fun _ _ _ h => h) (Or.inl ⟨by rfl, ?_⟩) (by assumption) ?_
      rotate_left
      · (intro wq hSw; (try dsimp only at hSw); have K := D2.out.keep hSw; have c0 := K.c0; have c1 := K.c1; have c2 := K.c2; have c3 := K.c3; have c4 := K.c4; clear K; clear hSw; go_simp; first | done | with_reducible rfl)
      try simp only [Act.put, List.setIfInBounds_toArray, List.set_cons_zero, List.set_cons_succ]
      refine wpAnyH_take (i := 3) (oi := { dst := some 17, op := Op.load 62 (Operand.tmp 16), type := 62, pos := "irregular.go:36", after := #[{ on := 2, ground := Ground.data }], guard := none }) (v := ?_) rfl (by kernel_rfl) (by kernel_rfl) (by kernel_rfl) (fun _ _ _ h => h) (Or.inl ⟨by rfl, ?_⟩) (by assumption) ?_
      rotate_left
      · (intro wq hSw; (try dsimp only at hSw); have K := D2.out.keep hSw; have c0 := K.c0; have c1 := K.c1; have c2 := K.c2; have c3 := K.c3; have c4 := K.c4; clear K; clear hSw; go_simp; first | done | with_reducible rfl)
      try simp only [Act.put, List.setIfInBounds_toArray, List.set_cons_zero, List.set_cons_succ]
      refine wpAnyH_ready (rs := [4]) (by kernel_rfl) (by simp) ?_
      refine AllReadyH.cons (o := { dst := some 18, op := Op.call { callee := Callee.value (Operand.func 71), args := #[Operand.tmp 17], argTypes := #[62] }, type := 3, pos := "irregular.go:36", after := #[{ on := 3, ground := Ground.data }], guard := none }) rfl (fun K hK => ?_) AllReadyH.nil
      go_simp
      refine (Dsize_any _ L k s h _ (HR.out.keep (B2.out.trans (hHeld.mono B2.out.size))) HL.out).mono ?_
      rintro e v1 ⟨rfl, hq⟩
      have hq : Below v0.heap.size v0 v1 := ⟨hq.os, hq.tape, hq.output, hq.size, hq.block⟩
      rw [DS.out]
      have hS := hHeld.trans (hq.mono hHeld.size)
      go_wp2_with fail
      refine hK.out _ _ hS (fun hHeld => ?_)
      clear hK K hHeld
      clear hq
      have hHeld := hS
      clear hS
      try simp only [Act.put, List.setIfInBounds_toArray, List.set_cons_zero, List.set_cons_succ]
      refine wpAnyH_ready (rs := [5]) (by kernel_rfl) (by simp) ?_
      refine AllReadyH.cons (o := { dst := some 19, op := Op.call { callee := Callee.value (Operand.func 247), args := #[Operand.tmp 15, Operand.tmp 18], argTypes := #[48, 3] }, type := 4, pos := "irregular.go:36", after := #[{ on := 1, ground := Ground.data }, { on := 4, ground := Ground.data }, { on := 4, ground := Ground.chain }], guard := none }) rfl (fun K hK => ?_) AllReadyH.nil
      go_simp
      refine (ascending_any _ xs (prodL L) _ (HA.out.keep (B2.out.trans (hHeld.mono B2.out.size))) hl).mono ?_
      rintro e v2 ⟨rfl, hq0⟩
      have hq : Below v1.heap.size v1 v2 := hq0 ▸ Below.refl _ _
      clear hq0
      have hS := hHeld.trans (hq.mono hHeld.size)
      go_wp2_with fail
      refine hK.out _ _ hS (fun hHeld => ?_)
      clear hK K hHeld
      clear hq
      have hHeld := hS
      clear hS
      try simp only [Act.put, List.setIfInBounds_toArray, List.set_cons_zero, List.set_cons_succ]
      refine wpAnyH_take (i := 6) (oi := { dst := some 20, op := Op.unOp UnOp.not 4 (Operand.tmp 19), type := 4, pos := "irregular.go:36", after := #[{ on := 5, ground := Ground.data }], guard := none }) (v := ?_) rfl (by kernel_rfl) (by kernel_rfl) (by kernel_rfl) (fun _ _ _ h => h) (Or.inl ⟨by rfl, ?_⟩) (by assumption) ?_
      rotate_left
      · (intro wq hSw; (try dsimp only at hSw); have K := D2.out.keep hSw; have c0 := K.c0; have c1 := K.c1; have c2 := K.c2; have c3 := K.c3; have c4 := K.c4; clear K; clear hSw; go_simp; first | done | with_reducible rfl)
      try simp only [Act.put, List.setIfInBounds_toArray, List.set_cons_zero, List.set_cons_succ]
      refine wpAnyH_done (by kernel_rfl) ?_ _
      have B3 := Lib.hid (B2.out.trans (hHeld.mono B2.out.size))
      clear hHeld B2 D2
      cases a : ascF (prodL L) (-1) xs
      · have E : Hid (schkE L k s h xs = 51) := Lib.hid (by unfold schkE; rw [if_pos CP.out, if_neg BG.out, a]; rfl)
        rw [a] at *
        go_wp2
        exact bodyPost_ret (v := .int .i64 51) (by simp [results, Try.results235, go_sem, *]) rfl ⟨by rw [E.out], B3.out⟩
      · have E : Hid (schkE L k s h xs = 0) := Lib.hid (by unfold schkE; rw [if_pos CP.out, if_neg BG.out, a]; rfl)
        go_wp2
        exact bodyPost_ret (v := .int .i64 0) (by simp [results, Try.results235, go_sem, *]) rfl ⟨by rw [E.out], B3.out⟩
  · have E : Hid (schkE L k s h xs = cpE L k s h) := Lib.hid (if_neg cp)
    generalize cpE L k s h = er at *
    have c2 : (er != 0) = true := by simp [cp]
    go_wp2
    exact bodyPost_ret (v := .int .i64 er) (by simp [results, Try.results235, go_sem, *]) rfl ⟨by rw [E.out], B1.out⟩
end Go.Proofs.Ytcpeailodgoilaa
namespace Go.Proofs.Ytcpeailodgoilaa
/-- the numbers of a list, ascending -/
def srt (xs : List Int) : List Int := xs.mergeSort fun x y => decide (x ≤ y)
theorem srt_length (xs : List Int) : (srt xs).length = xs.length := List.length_mergeSort _
theorem srt_asc (xs : List Int) : (srt xs).Pairwise (· ≤ ·) := by
  have := List.pairwise_mergeSort (le := fun x y : Int => decide (x ≤ y)) (fun a b c h1 h2 => by simp at *; omega) (fun a b => by simp; omega) xs
  exact this.imp fun h => by simpa using h
theorem posB_iff {l h s n : Int} (hk : chk l h s = 0) : posB l h s n = true ↔ RMem l h s n := by
  unfold posB RMem Mem
  rw [decide_eq_true_iff]
  constructor
  · rintro ⟨_, a, b, c⟩; exact ⟨a, b, Int.dvd_of_emod_eq_zero c⟩
  · rintro ⟨a, b, c⟩; exact ⟨hk, a, b, Int.emod_eq_zero_of_dvd c⟩
theorem nums_mem {l h s : Int} (hk : chk l h s = 0) (n : Int) : n ∈ numsL l h s ↔ RMem l h s n := by
  unfold numsL numsU
  rw [List.mem_map]
  constructor
  · rintro ⟨k, hk1, rfl⟩
    have hlt : k < (siz l h s).toNat := by simpa using hk1
    exact (posB_iff hk).1 (nthV_in hk (show (k : Int) < siz l h s by omega)).1
  · intro hm
    have le : l ≤ h := by have := hm.1; have := hm.2.1; omega
    obtain ⟨st, z, m1, s0⟩ := steps_a hk le
    obtain ⟨q, hq⟩ := hm.2.2
    have h1 := hm.1
    have h2 := hm.2.1
    have q0 : 0 ≤ q := by
      by_cases c : 0 ≤ q
      · exact c
      · have : magA s * q ≤ magA s * (-1) := Int.mul_le_mul_of_nonneg_left (by omega) (by omega)
        omega
    have q1 : q ≤ siz l h s - 1 := by
      by_cases c : q ≤ siz l h s - 1
      · exact c
      · have : (siz l h s - 1 + 1) * magA s ≤ q * magA s := mulr_a _ _ _ (by omega) (by omega)
        rw [Int.add_mul] at this
        rw [Int.mul_comm] at hq
        omega
    by_cases c : s < 0
    · refine ⟨(siz l h s - 1 - q).toNat, by simp; omega, ?_⟩
      unfold nthV
      rw [if_pos c, show (((siz l h s - 1 - q).toNat : Nat) : Int) = siz l h s - 1 - q by omega, Int.sub_mul, ← st, Int.mul_comm q, ← hq]
      omega
    · refine ⟨q.toNat, by simp; omega, ?_⟩
      unfold nthV
      rw [if_neg c, show ((q.toNat : Nat) : Int) = q by omega, Int.mul_comm, ← hq]
      omega
theorem nums_up {l h s : Int} (hk : chk l h s = 0) (hs : ¬ s < 0) : (numsL l h s).Pairwise (· < ·) := by
  have bA := chk_bounds hk
  unfold numsL numsU
  rw [List.pairwise_map]
  refine List.Pairwise.imp ?_ List.pairwise_lt_range
  intro i j hij
  unfold nthV
  rw [if_neg hs, if_neg hs]
  have : ((i : Int) + 1) * magA s ≤ (j : Int) * magA s := mulr_a _ _ _ (by omega) (by omega)
  rw [Int.add_mul] at this
  omega
theorem nums_down {l h s : Int} (hk : chk l h s = 0) (hs : s < 0) : (numsL l h s).Pairwise (· > ·) := by
  have bA := chk_bounds hk
  unfold numsL numsU
  rw [List.pairwise_map]
  refine List.Pairwise.imp ?_ List.pairwise_lt_range
  intro i j hij
  unfold nthV
  rw [if_pos hs, if_pos hs]
  have : ((i : Int) + 1) * magA s ≤ (j : Int) * magA s := mulr_a _ _ _ (by omega) (by omega)
  rw [Int.add_mul] at this
  show _ > _
  omega
theorem nums_nodup {l h s : Int} (hk : chk l h s = 0) : (numsL l h s).Nodup := by
  by_cases c : s < 0
  · exact (nums_down hk c).imp fun h => by omega
  · exact (nums_up hk c).imp fun h => by omega
/-- the numbers of a list of ranges -/
def numsAll (L : List R3) : List Int := L.flatMap fun x => numsL x.1 x.2.1 x.2.2
/-- a list of right ranges that are not empty, that have no number twice, and just the numbers of which P holds -/
structure Acc (P : Int → Prop) (L : List R3) : Prop where
  ok : ∀ x ∈ L, chk x.1 x.2.1 x.2.2 = 0 ∧ x.1 ≤ x.2.1
  nodup : (numsAll L).Nodup
  mem : ∀ n, n ∈ numsAll L ↔ P n
theorem Acc.nil {P : Int → Prop} (h : ∀ n, ¬ P n) : Acc P [] := ⟨fun _ hx => (by cases hx), List.nodup_nil, fun n => ⟨fun hx => (by cases hx), fun hx => absurd hx (h n)⟩⟩
theorem Acc.iff {P Q : Int → Prop} {L : List R3} (a : Acc P L) (h : ∀ n, P n ↔ Q n) : Acc Q L := ⟨a.ok, a.nodup, fun n => (a.mem n).trans (h n)⟩
theorem nrm_le' {lo hi st : Int} {dn : Bool} (c : lo ≤ hi) : (nrm lo hi st dn).1 = lo ∧ (nrm lo hi st dn).2.1 = hi := by
  unfold nrm nL nH; simp; exact ⟨fun _ => by omega, fun _ => by omega⟩
theorem nrm_mem {lo hi st : Int} {dn : Bool} (c : lo ≤ hi) (h1 : 1 ≤ st) (n : Int) : RMem (nrm lo hi st dn).1 (nrm lo hi st dn).2.1 (nrm lo hi st dn).2.2 n ↔ Mem lo hi st n := by
  obtain ⟨e1, e2⟩ := nrm_le' (st := st) (dn := dn) c
  unfold RMem
  rw [e1, e2]
  unfold nrm nS Mem
  simp only
  rw [if_neg (by omega)]
  by_cases e : lo = hi
  · subst e
    rw [if_pos rfl]
    constructor
    · rintro ⟨a, b, _⟩; exact ⟨a, b, by rw [show n - lo = 0 by omega]; exact Int.dvd_zero _⟩
    · rintro ⟨a, b, _⟩; exact ⟨a, b, by rw [show n - lo = 0 by omega]; exact Int.dvd_zero _⟩
  · rw [if_neg e]
    have : magA (if dn = true then -st else st) = st := by
      unfold magA; split <;> split <;> omega
    rw [this]
theorem Acc.add {P : Int → Prop} {L : List R3} (a : Acc P L) (lo hi st : Int) (dn : Bool) (h1 : 1 ≤ st) (hb : lo ≤ hi → (st ∣ hi - lo) ∧ -1000000 ≤ lo ∧ hi ≤ 1000000) (hn : ∀ n, P n → ¬ Mem lo hi st n) : Acc (fun n => P n ∨ Mem lo hi st n) (addP L lo hi st dn) := by
  unfold addP
  by_cases c : lo ≤ hi
  · rw [if_pos c]
    obtain ⟨b1, b2, b3⟩ := hb c
    have ck : chk (nrm lo hi st dn).1 (nrm lo hi st dn).2.1 (nrm lo hi st dn).2.2 = 0 := by
      have := chk_nrm lo hi st dn c h1 (Int.emod_eq_zero_of_dvd b1)
      rw [if_neg (by omega)] at this
      exact this
    have e : numsAll (L ++ [nrm lo hi st dn]) = numsAll L ++ numsL (nrm lo hi st dn).1 (nrm lo hi st dn).2.1 (nrm lo hi st dn).2.2 := by
      unfold numsAll; rw [List.flatMap_append]; simp
    refine ⟨?_, ?_, ?_⟩
    · intro x hx
      rw [List.mem_append, List.mem_singleton] at hx
      rcases hx with hx | rfl
      · exact a.ok x hx
      · exact ⟨ck, by rw [(nrm_le' c).1, (nrm_le' c).2]; exact c⟩
    · rw [e, List.nodup_append]
      refine ⟨a.nodup, nums_nodup ck, fun x hx y hy exy => ?_⟩
      subst exy
      exact hn x ((a.mem x).1 hx) ((nrm_mem c h1 x).1 ((nums_mem ck x).1 hy))
    · intro n
      rw [e, List.mem_append, a.mem, nums_mem ck, nrm_mem c h1]
  · rw [if_neg c]
    exact a.iff fun n => ⟨Or.inl, fun h => h.elim id fun m => absurd (Int.le_trans m.1 m.2.1) c⟩
end Go.Proofs.Ytcpeailodgoilaa
namespace Go.Proofs.Ytcpeailodgoilaa
open Go.Shelf
def Try.lays189_ren : Go.Shelf.Ren := ⟨fun | 189 => 56 | 125 => 158 | 257 => 157 | 128 => 214 | 129 => 215 | 294 => 205 | 295 => 206 | 296 => 207 | 297 => 208 | 298 => 209 | 299 => 210 | 216 => 211 | 300 => 212 | 301 => 213 | 328 => 238 | 329 => 239 | 330 => 240 | 331 => 241 | 332 => 242 | 215 => 222 | 343 => 248 | n => n, fun | 28 => 48 | 3 => 3 | 46 => 129 | 0 => 0 | 51 => 202 | 53 => 119 | 4 => 4 | 183 => 196 | 182 => 195 | 131 => 29 | 5 => 5 | 9 => 9 | 218 => 221 | 222 => 225 | 228 => 230 | 229 => 140 | n => n, fun | n => n⟩
theorem Try.lays189 : Go.Proofs.Lays.n189 Try.prog Try.lays189_ren := {
  mixed := by kernel_rfl
  f125 := Try.func158.trans (congrArg some (by kernel_rfl))
  f128 := Try.func214.trans (congrArg some (by kernel_rfl))
  f129 := Try.func215.trans (congrArg some (by kernel_rfl))
  f189 := Try.func56.trans (congrArg some (by kernel_rfl))
  f215 := Try.func222.trans (congrArg some (by kernel_rfl))
  f216 := Try.func211.trans (congrArg some (by kernel_rfl))
  f257 := Try.func157.trans (congrArg some (by kernel_rfl))
  f294 := Try.func205.trans (congrArg some (by kernel_rfl))
  f295 := Try.func206.trans (congrArg some (by kernel_rfl))
  f296 := Try.func207.trans (congrArg some (by kernel_rfl))
  f297 := Try.func208.trans (congrArg some (by kernel_rfl))
  f298 := Try.func209.trans (congrArg some (by kernel_rfl))
  f299 := Try.func210.trans (congrArg some (by kernel_rfl))
  f300 := Try.func212.trans (congrArg some (by kernel_rfl))
  f301 := Try.func213.trans (congrArg some (by kernel_rfl))
  f328 := Try.func238.trans (congrArg some (by kernel_rfl))
  f329 := Try.func239.trans (congrArg some (by kernel_rfl))
  f330 := Try.func240.trans (congrArg some (by kernel_rfl))
  f331 := Try.func241.trans (congrArg some (by kernel_rfl))
  f332 := Try.func242.trans (congrArg some (by kernel_rfl))
  f343 := Try.func248.trans (congrArg some (by kernel_rfl))
  t0 := Try.underlying0
  a0 := Try.isAgg0
  z0 := Try.sizeOf0
  v0 := Try.zeroValue0
  t3 := Try.underlying3
  a3 := Try.isAgg3
  z3 := Try.sizeOf3
  v3 := Try.zeroValue3
  t4 := Try.underlying4
  a4 := Try.isAgg4
  z4 := Try.sizeOf4
  v4 := Try.zeroValue4
  t5 := Try.underlying5
  a5 := Try.isAgg5
  z5 := Try.sizeOf5
  v5 := Try.zeroValue5
  t9 := Try.underlying9
  a9 := Try.isAgg9
  z9 := Try.sizeOf9
  v9 := Try.zeroValue9
  t28 := Try.underlying48
  a28 := Try.isAgg48
  z28 := Try.sizeOf48
  v28 := Try.zeroValue48
  t46 := Try.underlying129
  a46 := Try.isAgg129
  z46 := Try.sizeOf129
  v46 := Try.zeroValue129
  t51 := Try.underlying202
  a51 := Try.isAgg202
  z51 := Try.sizeOf202
  v51 := Try.zeroValue202
  t53 := Try.underlying119
  a53 := Try.isAgg119
  z53 := Try.sizeOf119
  v53 := Try.zeroValue119
  t131 := Try.underlying29
  a131 := Try.isAgg29
  z131 := Try.sizeOf29
  v131 := Try.zeroValue29
  t182 := Try.underlying195
  a182 := Try.isAgg195
  z182 := Try.sizeOf195
  v182 := Try.zeroValue195
  t183 := Try.underlying196
  a183 := Try.isAgg196
  z183 := Try.sizeOf196
  v183 := Try.zeroValue196
  t218 := Try.underlying221
  a218 := Try.isAgg221
  z218 := Try.sizeOf221
  v218 := Try.zeroValue221
  t222 := Try.underlying225
  a222 := Try.isAgg225
  z222 := Try.sizeOf225
  v222 := Try.zeroValue225
  t228 := Try.underlying230
  a228 := Try.isAgg230
  z228 := Try.sizeOf230
  v228 := Try.zeroValue230
  t229 := Try.underlying140
  a229 := Try.isAgg140
  z229 := Try.sizeOf140
  v229 := Try.zeroValue140 }
open Go.Sort Go.RowKit in
theorem Try.slices_Sort_int (blk off cap : Nat) (zs : List Int) (w : World) (hH : Holds (Value.int .i64) w blk off zs.toArray) (hblk : blk < w.heap.size) (hsz : zs.length < 4611686018427387904) :
    Calls Try.prog 56 #[.slice (some ⟨blk, off, none⟩) zs.length cap] w fun e w' =>
      e = .returned (.tuple #[]) ∧ ∃ n os, w' = grow (putRow (Value.int .i64) (Sort.ahead w n) blk off (zs.mergeSort fun x y => decide (x ≤ y)).toArray) os := Any.slices_Sort_int Try.lays189 blk off cap zs w hH hblk hsz
open Go.RowKit Go.Sort in
/-- .. and plain. (LAID: no walk: one application.) -/
theorem Try.slices_Sort_int_none (p : Option Addr) (cap : Nat) (w : World) :
    Calls Try.prog 56 #[.slice p 0 cap] w fun e w' => e = .returned (.tuple #[]) ∧ w' = w := Any.slices_Sort_int_none Try.lays189 p cap w
end Go.Proofs.Ytcpeailodgoilaa
namespace Go.Proofs.Ytcpeailodgoilaa
open Go.RowKit
theorem sort_any (v : Value) (xs : List Int) (base : Nat) (w : World) (h : w.ownsRow base 3 1 v xs.length (xs.map (Value.int .i64))) (hn : xs.length ≤ 5000) :
    Calls Try.prog 56 #[v] w fun e w' => e = .returned (.tuple #[]) ∧ Hid (w'.ownsRow base 3 1 v xs.length ((srt xs).map (Value.int .i64))) ∧ w.grownBy w' v.ownBlock := by
  rcases h.2 with ⟨rfl, h0⟩ | ⟨g, cap, cur, rfl, hb, hg, hle, hm, hs, ht⟩
  · have e : xs = [] := List.eq_nil_of_length_eq_zero h0
    subst e
    refine (show Calls Try.prog 56 #[.slice none 0 0] w _ from Any.slices_Sort_int_none Try.lays189 none 0 w).mono ?_
    rintro e w' ⟨he, rfl⟩
    exact ⟨he, Lib.hid (by simpa [srt] using World.ownsRow_nil w' base 3 1), rfl, rfl, rfl, Nat.le_refl _, fun _ _ _ => rfl⟩
  · refine (Try.slices_Sort_int g 0 cap xs w (holds_of_blockI hg (by simpa using ht)) (Array.getElem?_eq_some_iff.1 hg).1 (by omega)).mono ?_
    rintro e w' ⟨he, n, os, rfl⟩
    exact ⟨he, Lib.hid (ownsRow_sortedI (srt_length xs) hb hg hle hm hs), grownBy_sortedI _⟩
end Go.Proofs.Ytcpeailodgoilaa
