/-
  Part 15: DQ.
-/
import Derived.Test.YtabgphlpdoockaaDo1
import Derived.Test.YtabgphlpdoockaaDo4
import Derived.Test.YtabgphlpdoockaaDo13
import Derived.Test.YtabgphlpdoockaaDo14
import Derived.BigQuiet
import Derived.Deep.CutBlock
import Derived.Deep.DeepCutAuto
import Derived.Deep.DrawnRows
import Derived.Deep.LoopGhost
import Derived.Deep.QuietTactic
import Derived.Deep.RegionHeld3
import Derived.Deep.RegionWith
import Derived.Lib.Hide
import Derived.WalkKit
import Derived.WalkLawsBesides
import Derived.WalkSpells
namespace Go.Proofs.Ytabgphlpdoockaa
open Go.RowKit
/-- a slice of ints reads as a list -/
def Ri (w : World) (v : Value) (L : List Int) : Prop := ∃ (ao : Option Addr) (cap : Nat), v = .slice ao L.length cap ∧ (L.length = 0 ∨ ∃ b o : Nat, ao = some ⟨b, o, none⟩ ∧ b < w.heap.size ∧
  ∀ (j : Nat) (x : Int), L[j]? = some x → w.cell? ⟨b, o + j, none⟩ = some (.int .i64 x))
theorem Ri.keep {w w' : World} {v : Value} {L : List Int} (r : Ri w v L) (hb : Below w.heap.size w w') : Ri w' v L := by
  obtain ⟨ao, cap, e, h⟩ := r
  refine ⟨ao, cap, e, h.imp id ?_⟩
  rintro ⟨b, o, e, hlt, hc⟩
  exact ⟨b, o, e, Nat.lt_of_lt_of_le hlt hb.size, fun j x hx => (hb.cell (p := ⟨b, o + j, none⟩) hlt).trans (hc j x hx)⟩
def Ok1 (L : List Int) : Prop := ∀ x ∈ L, I64 x
theorem posN_bd (l h s n : Int) : 0 ≤ posN l h s n ∧ posN l h s n ≤ 2000001 := by
  unfold posN
  split
  · rename_i hp
    unfold posB at hp
    obtain ⟨hk, h1, h2, _⟩ := of_decide_eq_true hp
    have b := chk_bounds hk
    have m := magA_nonneg s
    split
    · have := Int.ediv_nonneg (show 0 ≤ h - n by omega) m
      have := Int.ediv_le_self (magA s) (show 0 ≤ h - n by omega)
      omega
    · have := Int.ediv_nonneg (show 0 ≤ n - l by omega) m
      have := Int.ediv_le_self (magA s) (show 0 ≤ n - l by omega)
      omega
  · omega
/-- the first numbers are in their ranges -/
def posOk (L : List R3) (ns : List Int) : Nat → Bool
  | 0 => true
  | j + 1 => posOk L ns j && (match L[j]?, ns[j]? with
    | some x, some n => posB x.1 x.2.1 x.2.2 n
    | _, _ => false)
/-- their position -/
def posP (L : List R3) (ns : List Int) : Nat → Int
  | 0 => 0
  | j + 1 => (match L[j]?, ns[j]? with
    | some x, some n => posP L ns j * siz x.1 x.2.1 x.2.2 + posN x.1 x.2.1 x.2.2 n
    | _, _ => 0)
theorem posOk_next {L : List R3} {ns : List Int} {j : Nat} {x : R3} {n : Int} (hx : L[j]? = some x) (hn : ns[j]? = some n) (h0 : posOk L ns j = true) : posOk L ns (j + 1) = posB x.1 x.2.1 x.2.2 n := by
  unfold posOk; rw [h0, hx, hn]; rfl
theorem posP_next {L : List R3} {ns : List Int} {j : Nat} {x : R3} {n : Int} (hx : L[j]? = some x) (hn : ns[j]? = some n) : posP L ns (j + 1) = posP L ns j * siz x.1 x.2.1 x.2.2 + posN x.1 x.2.1 x.2.2 n := by
  show (match L[j]?, ns[j]? with | some x, some n => _ | _, _ => _) = _
  rw [hx, hn]
theorem posOk_false {L : List R3} {ns : List Int} {j : Nat} (h : posOk L ns j = false) : ∀ d, posOk L ns (j + d) = false
  | 0 => h
  | d + 1 => by
    show posOk L ns (j + d + 1) = false
    unfold posOk
    rw [posOk_false h d]
    rfl
theorem posP_nonneg (L : List R3) (ns : List Int) : ∀ j, 0 ≤ posP L ns j
  | 0 => Int.le_refl _
  | j + 1 => by
    unfold posP
    split
    · rename_i x n _ _
      have h1 := Int.mul_nonneg (posP_nonneg L ns j) (siz_bdA x.1 x.2.1 x.2.2).1
      have h2 := (posN_bd x.1 x.2.1 x.2.2 n).1
      omega
    · omega
theorem posP_one (L : List R3) (ns : List Int) {j : Nat} (hj : j ≤ 1) : posP L ns j ≤ 2000001 := by
  match j, hj with
  | 0, _ => unfold posP; omega
  | 1, _ =>
    unfold posP
    split
    · rename_i x n _ _
      have h2 := (posN_bd x.1 x.2.1 x.2.2 n).2
      unfold posP
      omega
    · omega
/-- an index is in a domain; its position -/
def dposB (L : List R3) (k s h : Int) (ns : List Int) : Bool := decide (dchk L k s h = 0) && (decide (ns.length = L.length) && posOk L ns L.length)
def dposN (L : List R3) (k s h : Int) (ns : List Int) : Int := if dposB L k s h ns = true then posP L ns L.length else 0
theorem dposB_bad {L : List R3} {k s h : Int} {ns : List Int} (c : ¬ dchk L k s h = 0) : dposB L k s h ns = false := by unfold dposB; simp [c]
theorem dposB_len {L : List R3} {k s h : Int} {ns : List Int} (c : ¬ ns.length = L.length) : dposB L k s h ns = false := by unfold dposB; simp [c]
theorem dposB_good {L : List R3} {k s h : Int} {ns : List Int} (c : dchk L k s h = 0) (e : ns.length = L.length) : dposB L k s h ns = posOk L ns L.length := by unfold dposB; simp [c, e]
theorem dposN_no {L : List R3} {k s h : Int} {ns : List Int} (c : dposB L k s h ns = false) : dposN L k s h ns = 0 := by unfold dposN; rw [c]; rfl
theorem dposN_yes {L : List R3} {k s h : Int} {ns : List Int} (c : dposB L k s h ns = true) : dposN L k s h ns = posP L ns L.length := by unfold dposN; rw [if_pos c]
theorem mul_bdQ {a b : Int} (a0 : 0 ≤ a) (a1 : a ≤ 2000001) (b0 : 0 ≤ b) (b1 : b ≤ 2000001) : 0 ≤ a * b ∧ a * b ≤ 4000004000001 := prod_two a b a0 a1 b0 b1
set_option maxRecDepth 100000 in
set_option maxHeartbeats 3200000 in
theorem Dpos_any (v : Value) (L : List R3) (k s h : Int) (iv : Value) (ns : List Int) (w : World) (hr : Rd w v L) (hL : Ok3 L) (hi : Ri w iv ns) (hns : Ok1 ns) :
    Calls Try.prog 64 #[.agg #[v, .int .i64 k, .int .i64 s, .int .i64 h], iv] w fun e w' => e = .returned (.tuple #[.int .i64 (dposN L k s h ns), .bool (dposB L k s h ns)]) ∧ Below w.heap.size w w' := by
  obtain ⟨ao, cap, rfl, hc⟩ := hr
  obtain ⟨ai, ci, rfl, hci⟩ := hi
  have HR : Hid (Rd w (.slice ao L.length cap) L) := Lib.hid ⟨ao, cap, rfl, hc⟩
  have HI : Hid (Ri w (.slice ai ns.length ci) ns) := Lib.hid ⟨ai, ci, rfl, hci⟩
  have HC := Lib.hid hc
  have HIC := Lib.hid hci
  have HL := Lib.hid hL
  have HN := Lib.hid hns
  clear hc hci hL hns
  go_enter Try.func64, Try.ntmps64
  go_wp2_with fail
  refine (Dcheck_any _ L _ _ _ _ (HR.out.keep (below_new _ _)) HL.out).mono ?_
  rintro e w1 ⟨rfl, hb1⟩
  have R1 := resD hb1
  have D1 : Hid (DSt w (.slice ao L.length cap) k s h w1) := Lib.hid ⟨R1.1, R1.2⟩
  clear hb1 R1
  have x0 := D1.out.d.c0
  have CD := Classical.em (dchk L k s h = 0 ∧ ns.length = L.length)
  rcases CD with ⟨c, ln⟩ | cb
  · have c' : (dchk L k s h != 0) = false := by simp [c]
    have l' : ((ns.length : Int) != (L.length : Int)) = false := by simp [ln]
    have CC := Lib.hid c
    have LN := Lib.hid ln
    have rk := Lib.hid (dchk_rank c)
    obtain ⟨b, o, rfl, hb, hcell⟩ := HC.out.resolve_left (by have := rk.out; omega)
    obtain ⟨bi, oi, rfl, hbi, hicell⟩ := HIC.out.resolve_left (by have := rk.out; omega)
    have CL := Lib.hid hcell
    have CI := Lib.hid hicell
    clear c ln hcell hicell HC HIC
    have n2 : (L.length : Int) ≤ 2 := by have := rk.out; omega
    go_wp2_with fail
    go_loopg [6, 7, 8, 9, 10, 25] (L.length + 1) (fun gh v6 _ _ _ _ v25 wr => ∃ j : Nat, v25 = .int .i64 j ∧ v6 = .int .i64 (posP L ns j) ∧ (j ≤ L.length ∧ L.length - j < gh) ∧ Hid (posOk L ns j = true) ∧ Hid (DSt w (.slice (some ⟨b, o, none⟩) L.length cap) k s h wr))
    case atStart => exact ⟨0, rfl, rfl, ⟨by omega, by omega⟩, Lib.hid rfl, D1⟩
    case round =>
      obtain ⟨j, rfl, rfl, ⟨j0, jg⟩, hp, D2⟩ := hrel
      have KG := Lib.hid jg
      clear jg
      by_cases hj : j < L.length
      · have hj2 : j < ns.length := by have := LN.out; omega
        have jw : IntKind.i64.wrap ((j : Int) + 1) = (j : Int) + 1 := IntWalk.i64_in _ (by omega)
        have m2 : (ns.length : Int) ≤ 2 := by have := LN.out; omega
        obtain ⟨x, hx⟩ : ∃ x, L[j]? = some x := ⟨L[j], List.getElem?_eq_getElem hj⟩
        obtain ⟨n, hn⟩ : ∃ n, ns[j]? = some n := ⟨ns[j], List.getElem?_eq_getElem hj2⟩
        obtain ⟨q0, q1, q2⟩ := CL.out j x hx
        have NI := Lib.hid (CI.out j n hn)
        have ox := HL.out x (List.mem_of_getElem? hx)
        have on := HN.out n (List.mem_of_getElem? hn)
        have FX := Lib.hid hx
        have FN := Lib.hid hn
        clear hx hn
        have p0 := (D2.out.below.cell (p := ⟨b, o + j * 3, none⟩) hb).trans q0
        have p1 := (D2.out.below.cell (p := ⟨b, o + j * 3 + 1, none⟩) hb).trans q1
        have p2 := (D2.out.below.cell (p := ⟨b, o + j * 3 + 2, none⟩) hb).trans q2
        clear q0 q1 q2
        go_upto_region 7 with fail
        have D3 := Lib.hid (D2.out.keep (below_new wr (.cells #[.int .i64 x.1, .int .i64 x.2.1, .int .i64 x.2.2] 23)))
        have X3 := B3.new (.int .i64 x.1) (.int .i64 x.2.1) (.int .i64 x.2.2) 23 wr
        clear p0 p1 p2 D2
        generalize wr.alloc (.cells #[.int .i64 x.1, .int .i64 x.2.1, .int .i64 x.2.2] 23) = w3 at *
        generalize wr.heap.size = xb at *
        refine wp_region_held_drew (S := (fun w' => DSt w (.slice (some ⟨b, o, none⟩) L.length cap) k s h w' ∧ B3 xb (.int .i64 x.1) (.int .i64 x.2.1) (.int .i64 x.2.2) w')) (by kernel_rfl) ⟨D3.out.keep (to_drew (Below.refl _ _)), X3.keep (to_drew (Below.refl _ _))⟩ (fun hHeld => ?_)
        clear D3 X3
        obtain ⟨v0, hv0⟩ : ∃ v0, v0 = w3.drew := ⟨_, rfl⟩
        rw [← hv0] at hHeld ⊢
        clear hv0
        refine wpAnyH_take (i := 0) (oi := { dst := some 31, op := Op.load 23 (Operand.tmp 8), type := 23, pos := "domain.go:114", after := #[], guard := none }) (v := ?_) rfl (by kernel_rfl) (by kernel_rfl) (by kernel_rfl) (fun _ _ _ h => h) (Or.inl ⟨by rfl, ?_⟩) (by assumption) ?_
        rotate_left
        · (intro wq hSw; (try dsimp only at hSw); have a0 := hSw.2.c0; have a1 := hSw.2.c1; have a2 := hSw.2.c2; have n0 := (hSw.1.below.cell (p := ⟨bi, oi + j, none⟩) hbi).trans NI.out; clear hSw; go_simp; first | done | with_reducible rfl)
        try simp only [Act.put, List.setIfInBounds_toArray, List.set_cons_zero, List.set_cons_succ]
        refine wpAnyH_take (i := 1) (oi := { dst := some 32, op := Op.move (Operand.tmp 1), type := 48, pos := "domain.go:114", after := #[], guard := none }) (v := ?_) rfl (by kernel_rfl) (by kernel_rfl) (by kernel_rfl) (fun _ _ _ h => h) (Or.inl ⟨by rfl, ?_⟩) (by assumption) ?_
        rotate_left
        · (intro wq hSw; (try dsimp only at hSw); have a0 := hSw.2.c0; have a1 := hSw.2.c1; have a2 := hSw.2.c2; have n0 := (hSw.1.below.cell (p := ⟨bi, oi + j, none⟩) hbi).trans NI.out; clear hSw; go_simp; first | done | with_reducible rfl)
        try simp only [Act.put, List.setIfInBounds_toArray, List.set_cons_zero, List.set_cons_succ]
        refine wpAnyH_take (i := 2) (oi := { dst := some 33, op := Op.move (Operand.tmp 7), type := 3, pos := "domain.go:114", after := #[], guard := none }) (v := ?_) rfl (by kernel_rfl) (by kernel_rfl) (by kernel_rfl) (fun _ _ _ h => h) (Or.inl ⟨by rfl, ?_⟩) (by assumption) ?_
        rotate_left
        · (intro wq hSw; (try dsimp only at hSw); have a0 := hSw.2.c0; have a1 := hSw.2.c1; have a2 := hSw.2.c2; have n0 := (hSw.1.below.cell (p := ⟨bi, oi + j, none⟩) hbi).trans NI.out; clear hSw; go_simp; first | done | with_reducible rfl)
        try simp only [Act.put, List.setIfInBounds_toArray, List.set_cons_zero, List.set_cons_succ]
        refine wpAnyH_take (i := 3) (oi := { dst := some 34, op := Op.indexAddr 48 (Operand.tmp 32) (Operand.tmp 33), type := 0, pos := "domain.go:114", after := #[{ on := 1, ground := Ground.data }, { on := 2, ground := Ground.data }], guard := none }) (v := ?_) rfl (by kernel_rfl) (by kernel_rfl) (by kernel_rfl) (fun _ _ _ h => h) (Or.inl ⟨by rfl, ?_⟩) (by assumption) ?_
        rotate_left
        · (intro wq hSw; (try dsimp only at hSw); have a0 := hSw.2.c0; have a1 := hSw.2.c1; have a2 := hSw.2.c2; have n0 := (hSw.1.below.cell (p := ⟨bi, oi + j, none⟩) hbi).trans NI.out; clear hSw; go_simp; first | done | with_reducible rfl)
        try simp only [Act.put, List.setIfInBounds_toArray, List.set_cons_zero, List.set_cons_succ]
        refine wpAnyH_take (i := 4) (oi := { dst := some 35, op := Op.load 3 (Operand.tmp 34), type := 3, pos := "domain.go:114", after := #[{ on := 3, ground := Ground.data }], guard := none }) (v := ?_) rfl (by kernel_rfl) (by kernel_rfl) (by kernel_rfl) (fun _ _ _ h => h) (Or.inl ⟨by rfl, ?_⟩) (by assumption) ?_
        rotate_left
        · (intro wq hSw; (try dsimp only at hSw); have a0 := hSw.2.c0; have a1 := hSw.2.c1; have a2 := hSw.2.c2; have n0 := (hSw.1.below.cell (p := ⟨bi, oi + j, none⟩) hbi).trans NI.out; clear hSw; go_simp; first | done | with_reducible rfl)
        try simp only [Act.put, List.setIfInBounds_toArray, List.set_cons_zero, List.set_cons_succ]
        refine wpAnyH_ready (rs := [5]) (by kernel_rfl) (by simp) ?_
        refine AllReadyH.cons (o := { dst := some 36, op := Op.call { callee := Callee.value (Operand.func 22), args := #[Operand.tmp 31, Operand.tmp 35], argTypes := #[23, 3] }, type := 29, pos := "domain.go:114", after := #[{ on := 0, ground := Ground.data }, { on := 4, ground := Ground.data }], guard := none }) rfl (fun K hK => ?_) AllReadyH.nil
        go_simp
        refine (Position_any x.1 x.2.1 x.2.2 n _ ox.1 ox.2.1 ox.2.2 on).mono ?_
        rintro e v1 ⟨rfl, hq⟩
        have hq : Below v0.heap.size v0 v1 := ⟨hq.os, hq.tape, hq.output, hq.size, hq.block⟩
        have hS := And.intro (hHeld.1.keep hq) (hHeld.2.keep hq)
        go_wp2_with fail
        refine hK.out _ _ hS (fun hHeld => ?_)
        clear hK K hHeld
        clear hq
        have hHeld := hS
        clear hS
        try simp only [Act.put, List.setIfInBounds_toArray, List.set_cons_zero, List.set_cons_succ]
        refine wpAnyH_take (i := 6) (oi := { dst := some 30, op := Op.move (Operand.tmp 36), type := 29, pos := "domain.go:114", after := #[{ on := 5, ground := Ground.data }], guard := none }) (v := ?_) rfl (by kernel_rfl) (by kernel_rfl) (by kernel_rfl) (fun _ _ _ h => h) (Or.inl ⟨by rfl, ?_⟩) (by assumption) ?_
        rotate_left
        · (intro wq hSw; (try dsimp only at hSw); have a0 := hSw.2.c0; have a1 := hSw.2.c1; have a2 := hSw.2.c2; have n0 := (hSw.1.below.cell (p := ⟨bi, oi + j, none⟩) hbi).trans NI.out; clear hSw; go_simp; first | done | with_reducible rfl)
        try simp only [Act.put, List.setIfInBounds_toArray, List.set_cons_zero, List.set_cons_succ]
        refine wpAnyH_take (i := 7) (oi := { dst := some 37, op := Op.extract (Operand.tmp 30) 0, type := 3, pos := "domain.go:114", after := #[{ on := 6, ground := Ground.data }], guard := none }) (v := ?_) rfl (by kernel_rfl) (by kernel_rfl) (by kernel_rfl) (fun _ _ _ h => h) (Or.inl ⟨by rfl, ?_⟩) (by assumption) ?_
        rotate_left
        · (intro wq hSw; (try dsimp only at hSw); have a0 := hSw.2.c0; have a1 := hSw.2.c1; have a2 := hSw.2.c2; have n0 := (hSw.1.below.cell (p := ⟨bi, oi + j, none⟩) hbi).trans NI.out; clear hSw; go_simp; first | done | with_reducible rfl)
        try simp only [Act.put, List.setIfInBounds_toArray, List.set_cons_zero, List.set_cons_succ]
        refine wpAnyH_take (i := 8) (oi := { dst := some 38, op := Op.extract (Operand.tmp 30) 1, type := 4, pos := "domain.go:114", after := #[{ on := 6, ground := Ground.data }, { on := 9, ground := Ground.gcOnly Departure.lateStores }], guard := none }) (v := ?_) rfl (by kernel_rfl) (by kernel_rfl) (by kernel_rfl) (fun _ _ _ h => h) (Or.inl ⟨by rfl, ?_⟩) (by assumption) ?_
        rotate_left
        · (intro wq hSw; (try dsimp only at hSw); have a0 := hSw.2.c0; have a1 := hSw.2.c1; have a2 := hSw.2.c2; have n0 := (hSw.1.below.cell (p := ⟨bi, oi + j, none⟩) hbi).trans NI.out; clear hSw; go_simp; first | done | with_reducible rfl)
        try simp only [Act.put, List.setIfInBounds_toArray, List.set_cons_zero, List.set_cons_succ]
        refine wpAnyH_take (i := 9) (oi := { dst := some 9, op := Op.assign (Operand.tmp 37), type := 3, pos := "domain.go:114", after := #[{ on := 7, ground := Ground.data }, { on := 5, ground := Ground.chain }, { on := 0, ground := Ground.phase }, { on := 1, ground := Ground.phase }, { on := 2, ground := Ground.phase }, { on := 3, ground := Ground.phase }, { on := 4, ground := Ground.phase }, { on := 5, ground := Ground.phase }, { on := 6, ground := Ground.phase }, { on := 7, ground := Ground.phase }, { on := 8, ground := Ground.textOnly Departure.lateStores }], guard := none }) (v := ?_) rfl (by kernel_rfl) (by kernel_rfl) (by kernel_rfl) (fun _ _ _ h => h) (Or.inl ⟨by rfl, ?_⟩) (by assumption) ?_
        rotate_left
        · (intro wq hSw; (try dsimp only at hSw); have a0 := hSw.2.c0; have a1 := hSw.2.c1; have a2 := hSw.2.c2; have n0 := (hSw.1.below.cell (p := ⟨bi, oi + j, none⟩) hbi).trans NI.out; clear hSw; go_simp; first | done | with_reducible rfl)
        try simp only [Act.put, List.setIfInBounds_toArray, List.set_cons_zero, List.set_cons_succ]
        refine wpAnyH_take (i := 10) (oi := { dst := some 10, op := Op.assign (Operand.tmp 38), type := 4, pos := "domain.go:114", after := #[{ on := 8, ground := Ground.data }, { on := 9, ground := Ground.chain }, { on := 0, ground := Ground.phase }, { on := 1, ground := Ground.phase }, { on := 2, ground := Ground.phase }, { on := 3, ground := Ground.phase }, { on := 4, ground := Ground.phase }, { on := 5, ground := Ground.phase }, { on := 6, ground := Ground.phase }, { on := 7, ground := Ground.phase }, { on := 8, ground := Ground.phase }, { on := 9, ground := Ground.phase }], guard := none }) (v := ?_) rfl (by kernel_rfl) (by kernel_rfl) (by kernel_rfl) (fun _ _ _ h => h) (Or.inl ⟨by rfl, ?_⟩) (by assumption) ?_
        rotate_left
        · (intro wq hSw; (try dsimp only at hSw); have a0 := hSw.2.c0; have a1 := hSw.2.c1; have a2 := hSw.2.c2; have n0 := (hSw.1.below.cell (p := ⟨bi, oi + j, none⟩) hbi).trans NI.out; clear hSw; go_simp; first | done | with_reducible rfl)
        try simp only [Act.put, List.setIfInBounds_toArray, List.set_cons_zero, List.set_cons_succ]
        refine wpAnyH_done (by kernel_rfl) ?_ _
        have D4 := Lib.hid hHeld.1
        have X4 := Lib.hid hHeld.2
        clear hHeld
        cases c : posB x.1 x.2.1 x.2.2 n
        · have O : Hid (posOk L ns (j + 1) = false) := Lib.hid (by rw [posOk_next FX.out FN.out hp.out, c])
          have E : Hid (dposB L k s h ns = false) := Lib.hid (by rw [dposB_good CC.out LN.out]; have := posOk_false O.out (L.length - (j + 1)); rwa [show j + 1 + (L.length - (j + 1)) = L.length by omega] at this)
          have EN : Hid (dposN L k s h ns = 0) := Lib.hid (dposN_no E.out)
          clear c
          go_wp2
          rw [E.out, EN.out]
          exact bodyPost_ret (v := .tuple #[.int .i64 0, .bool false]) (by simp [results, Try.results64, go_sem, *]) rfl ⟨rfl, D4.out.below⟩
        · have O : Hid (posOk L ns (j + 1) = true) := Lib.hid (by rw [posOk_next FX.out FN.out hp.out, c])
          have PN := Lib.hid (posP_next FX.out FN.out)
          have mb := mul_bdQ (posP_nonneg L ns j) (posP_one L ns (show j ≤ 1 by omega)) (siz_bdA x.1 x.2.1 x.2.2).1 (siz_bdA x.1 x.2.1 x.2.2).2
          have nb := posN_bd x.1 x.2.1 x.2.2 n
          have w1 : IntKind.i64.wrap (posP L ns j * siz x.1 x.2.1 x.2.2) = posP L ns j * siz x.1 x.2.1 x.2.2 := IntWalk.i64_in _ (by omega)
          have w2 : IntKind.i64.wrap (posP L ns j * siz x.1 x.2.1 x.2.2 + posN x.1 x.2.1 x.2.2 n) = posP L ns j * siz x.1 x.2.1 x.2.2 + posN x.1 x.2.1 x.2.2 n := IntWalk.i64_in _ (by omega)
          have a0 := X4.out.c0
          have a1 := X4.out.c1
          have a2 := X4.out.c2
          clear c mb nb
          go_wp2_with fail
          refine (Size_any x.1 x.2.1 x.2.2 _ ox.1 ox.2.1 ox.2.2).mono ?_
          rintro e w5 ⟨rfl, hb5⟩
          have D5 := Lib.hid (D4.out.keep hb5)
          clear hb5 D4 X4 a0 a1 a2
          go_wp2_with fail
          go_roundg (L.length - j)
          case measure => exact KG.out
          case rel => exact ⟨j + 1, by go_num, by rw [PN.out], ⟨by omega, by omega⟩, O, D5⟩
      · obtain rfl : j = L.length := by omega
        have E : Hid (dposB L k s h ns = true) := Lib.hid (by rw [dposB_good CC.out LN.out, hp.out])
        have EN : Hid (dposN L k s h ns = posP L ns L.length) := Lib.hid (dposN_yes E.out)
        clear hp
        go_wp2
        rw [E.out, EN.out]
        exact bodyPost_ret (v := .tuple #[.int .i64 (posP L ns L.length), .bool true]) (by simp [results, Try.results64, go_sem, *]) rfl ⟨rfl, D2.out.below⟩
  · have E : Hid (dposB L k s h ns = false) := Lib.hid (by
      by_cases c : dchk L k s h = 0
      · exact dposB_len (fun e => cb ⟨c, e⟩)
      · exact dposB_bad c)
    have EN : Hid (dposN L k s h ns = 0) := Lib.hid (dposN_no E.out)
    by_cases c : dchk L k s h = 0
    · have c' : (dchk L k s h != 0) = false := by simp [c]
      have l' : ((ns.length : Int) != (L.length : Int)) = true := by have : ¬ ns.length = L.length := fun e => cb ⟨c, e⟩; simp; omega
      clear c cb
      go_wp2
      rw [E.out, EN.out]
      exact bodyPost_ret (v := .tuple #[.int .i64 0, .bool false]) (by simp [results, Try.results64, go_sem, *]) rfl ⟨rfl, D1.out.below⟩
    · have c' : (dchk L k s h != 0) = true := by simp [c]
      clear c cb
      go_wp2
      rw [E.out, EN.out]
      exact bodyPost_ret (v := .tuple #[.int .i64 0, .bool false]) (by simp [results, Try.results64, go_sem, *]) rfl ⟨rfl, D1.out.below⟩
set_option maxRecDepth 100000 in
set_option maxHeartbeats 3200000 in
theorem rHas_any (v : Value) (L : List R3) (k s h : Int) (iv : Value) (ns : List Int) (w : World) (hr : Rd w v L) (hL : Ok3 L) (hi : Ri w iv ns) (hns : Ok1 ns) :
    Calls Try.prog 72 #[.agg #[v, .int .i64 k, .int .i64 s, .int .i64 h], iv] w fun e w' => e = .returned (.bool (dposB L k s h ns)) ∧ Below w.heap.size w w' := by
  obtain ⟨ao, cap, rfl, hc⟩ := hr
  obtain ⟨ai, ci, rfl, hci⟩ := hi
  have HR : Hid (Rd w (.slice ao L.length cap) L) := Lib.hid ⟨ao, cap, rfl, hc⟩
  have HI : Hid (Ri w (.slice ai ns.length ci) ns) := Lib.hid ⟨ai, ci, rfl, hci⟩
  have HC := Lib.hid hc
  have HIC := Lib.hid hci
  have HL := Lib.hid hL
  have HN := Lib.hid hns
  clear hc hci hL hns
  go_enter Try.func72, Try.ntmps72
  go_wp2_with fail
  refine (rDcheck_any _ L _ _ _ _ (HR.out.keep (below_new _ _)) HL.out).mono ?_
  rintro e w1 ⟨rfl, hb1⟩
  have R1 := resD hb1
  have D1 : Hid (DSt w (.slice ao L.length cap) k s h w1) := Lib.hid ⟨R1.1, R1.2⟩
  clear hb1 R1
  have x0 := D1.out.d.c0
  have CD := Classical.em (dchk L k s h = 0 ∧ ns.length = L.length)
  rcases CD with ⟨c, ln⟩ | cb
  · have c' : (dchk L k s h != 0) = false := by simp [c]
    have l' : ((ns.length : Int) != (L.length : Int)) = false := by simp [ln]
    have CC := Lib.hid c
    have LN := Lib.hid ln
    have rk := Lib.hid (dchk_rank c)
    obtain ⟨b, o, rfl, hb, hcell⟩ := HC.out.resolve_left (by have := rk.out; omega)
    obtain ⟨bi, oi, rfl, hbi, hicell⟩ := HIC.out.resolve_left (by have := rk.out; omega)
    have CL := Lib.hid hcell
    have CI := Lib.hid hicell
    clear c ln hcell hicell HC HIC
    have n2 : (L.length : Int) ≤ 2 := by have := rk.out; omega
    go_wp2_with fail
    go_loopg [5] (L.length + 1) (fun gh v5 wr => ∃ j : Nat, v5 = .int .i64 j ∧ (j ≤ L.length ∧ L.length - j < gh) ∧ Hid (posOk L ns j = true) ∧ Hid (DSt w (.slice (some ⟨b, o, none⟩) L.length cap) k s h wr))
    case atStart => exact ⟨0, rfl, ⟨by omega, by omega⟩, Lib.hid rfl, D1⟩
    case round =>
      obtain ⟨j, rfl, ⟨j0, jg⟩, hp, D2⟩ := hrel
      have KG := Lib.hid jg
      clear jg
      by_cases hj : j < L.length
      · have hj2 : j < ns.length := by have := LN.out; omega
        have jw : IntKind.i64.wrap ((j : Int) + 1) = (j : Int) + 1 := IntWalk.i64_in _ (by omega)
        have m2 : (ns.length : Int) ≤ 2 := by have := LN.out; omega
        obtain ⟨x, hx⟩ : ∃ x, L[j]? = some x := ⟨L[j], List.getElem?_eq_getElem hj⟩
        obtain ⟨n, hn⟩ : ∃ n, ns[j]? = some n := ⟨ns[j], List.getElem?_eq_getElem hj2⟩
        obtain ⟨q0, q1, q2⟩ := CL.out j x hx
        have NI := Lib.hid (CI.out j n hn)
        have ox := HL.out x (List.mem_of_getElem? hx)
        have on := HN.out n (List.mem_of_getElem? hn)
        have FX := Lib.hid hx
        have FN := Lib.hid hn
        clear hx hn
        have Q := Lib.hid (And.intro q0 (And.intro q1 q2))
        clear q0 q1 q2
        go_upto_region 6 with fail
        refine wp_region_held_drew (S := (fun w' => DSt w (.slice (some ⟨b, o, none⟩) L.length cap) k s h w')) (by kernel_rfl) (D2.out.keep (to_drew (Below.refl _ _))) (fun hHeld => ?_)
        clear D2
        obtain ⟨v0, hv0⟩ : ∃ v0, v0 = wr.drew := ⟨_, rfl⟩
        rw [← hv0] at hHeld ⊢
        clear hv0
        refine wpAnyH_take (i := 0) (oi := { dst := some 23, op := Op.fieldAddr 62 (Operand.tmp 2) 0, type := 0, pos := "ref.go:82", after := #[], guard := none }) (v := ?_) rfl (by kernel_rfl) (by kernel_rfl) (by kernel_rfl) (fun _ _ _ h => h) (Or.inl ⟨by rfl, ?_⟩) (by assumption) ?_
        rotate_left
        · (intro wq hSw; (try dsimp only at hSw); have a0 := hSw.d.c0; have n0 := (hSw.below.cell (p := ⟨bi, oi + j, none⟩) hbi).trans NI.out;have p0 := (hSw.below.cell (p := ⟨b, o + j * 3, none⟩) hb).trans Q.out.1; have p1 := (hSw.below.cell (p := ⟨b, o + j * 3 + 1, none⟩) hb).trans Q.out.2.1; have p2 := (hSw.below.cell (p := ⟨b, o + j * 3 + 2, none⟩) hb).trans Q.out.2.2; clear hSw; go_simp; first | done | with_reducible rfl)
        try simp only [Act.put, List.setIfInBounds_toArray, List.set_cons_zero, List.set_cons_succ]
        refine wpAnyH_take (i := 1) (oi := { dst := some 24, op := Op.load 40 (Operand.tmp 23), type := 40, pos := "ref.go:82", after := #[{ on := 0, ground := Ground.data }], guard := none }) (v := ?_) rfl (by kernel_rfl) (by kernel_rfl) (by kernel_rfl) (fun _ _ _ h => h) (Or.inl ⟨by rfl, ?_⟩) (by assumption) ?_
        rotate_left
        · (intro wq hSw; (try dsimp only at hSw); have a0 := hSw.d.c0; have n0 := (hSw.below.cell (p := ⟨bi, oi + j, none⟩) hbi).trans NI.out;have p0 := (hSw.below.cell (p := ⟨b, o + j * 3, none⟩) hb).trans Q.out.1; have p1 := (hSw.below.cell (p := ⟨b, o + j * 3 + 1, none⟩) hb).trans Q.out.2.1; have p2 := (hSw.below.cell (p := ⟨b, o + j * 3 + 2, none⟩) hb).trans Q.out.2.2; clear hSw; go_simp; first | done | with_reducible rfl)
        try simp only [Act.put, List.setIfInBounds_toArray, List.set_cons_zero, List.set_cons_succ]
        refine wpAnyH_take (i := 2) (oi := { dst := some 25, op := Op.move (Operand.tmp 5), type := 3, pos := "ref.go:82", after := #[], guard := none }) (v := ?_) rfl (by kernel_rfl) (by kernel_rfl) (by kernel_rfl) (fun _ _ _ h => h) (Or.inl ⟨by rfl, ?_⟩) (by assumption) ?_
        rotate_left
        · (intro wq hSw; (try dsimp only at hSw); have a0 := hSw.d.c0; have n0 := (hSw.below.cell (p := ⟨bi, oi + j, none⟩) hbi).trans NI.out;have p0 := (hSw.below.cell (p := ⟨b, o + j * 3, none⟩) hb).trans Q.out.1; have p1 := (hSw.below.cell (p := ⟨b, o + j * 3 + 1, none⟩) hb).trans Q.out.2.1; have p2 := (hSw.below.cell (p := ⟨b, o + j * 3 + 2, none⟩) hb).trans Q.out.2.2; clear hSw; go_simp; first | done | with_reducible rfl)
        try simp only [Act.put, List.setIfInBounds_toArray, List.set_cons_zero, List.set_cons_succ]
        refine wpAnyH_take (i := 3) (oi := { dst := some 26, op := Op.indexAddr 40 (Operand.tmp 24) (Operand.tmp 25), type := 0, pos := "ref.go:82", after := #[{ on := 1, ground := Ground.data }, { on := 2, ground := Ground.data }], guard := none }) (v := ?_) rfl (by kernel_rfl) (by kernel_rfl) (by kernel_rfl) (fun _ _ _ h => h) (Or.inl ⟨by rfl, ?_⟩) (by assumption) ?_
        rotate_left
        · (intro wq hSw; (try dsimp only at hSw); have a0 := hSw.d.c0; have n0 := (hSw.below.cell (p := ⟨bi, oi + j, none⟩) hbi).trans NI.out;have p0 := (hSw.below.cell (p := ⟨b, o + j * 3, none⟩) hb).trans Q.out.1; have p1 := (hSw.below.cell (p := ⟨b, o + j * 3 + 1, none⟩) hb).trans Q.out.2.1; have p2 := (hSw.below.cell (p := ⟨b, o + j * 3 + 2, none⟩) hb).trans Q.out.2.2; clear hSw; go_simp; first | done | with_reducible rfl)
        try simp only [Act.put, List.setIfInBounds_toArray, List.set_cons_zero, List.set_cons_succ]
        refine wpAnyH_take (i := 4) (oi := { dst := some 27, op := Op.load 23 (Operand.tmp 26), type := 23, pos := "ref.go:82", after := #[{ on := 3, ground := Ground.data }], guard := none }) (v := ?_) rfl (by kernel_rfl) (by kernel_rfl) (by kernel_rfl) (fun _ _ _ h => h) (Or.inl ⟨by rfl, ?_⟩) (by assumption) ?_
        rotate_left
        · (intro wq hSw; (try dsimp only at hSw); have a0 := hSw.d.c0; have n0 := (hSw.below.cell (p := ⟨bi, oi + j, none⟩) hbi).trans NI.out;have p0 := (hSw.below.cell (p := ⟨b, o + j * 3, none⟩) hb).trans Q.out.1; have p1 := (hSw.below.cell (p := ⟨b, o + j * 3 + 1, none⟩) hb).trans Q.out.2.1; have p2 := (hSw.below.cell (p := ⟨b, o + j * 3 + 2, none⟩) hb).trans Q.out.2.2; clear hSw; go_simp; first | done | with_reducible rfl)
        try simp only [Act.put, List.setIfInBounds_toArray, List.set_cons_zero, List.set_cons_succ]
        refine wpAnyH_take (i := 5) (oi := { dst := some 28, op := Op.move (Operand.tmp 1), type := 48, pos := "ref.go:82", after := #[], guard := none }) (v := ?_) rfl (by kernel_rfl) (by kernel_rfl) (by kernel_rfl) (fun _ _ _ h => h) (Or.inl ⟨by rfl, ?_⟩) (by assumption) ?_
        rotate_left
        · (intro wq hSw; (try dsimp only at hSw); have a0 := hSw.d.c0; have n0 := (hSw.below.cell (p := ⟨bi, oi + j, none⟩) hbi).trans NI.out;have p0 := (hSw.below.cell (p := ⟨b, o + j * 3, none⟩) hb).trans Q.out.1; have p1 := (hSw.below.cell (p := ⟨b, o + j * 3 + 1, none⟩) hb).trans Q.out.2.1; have p2 := (hSw.below.cell (p := ⟨b, o + j * 3 + 2, none⟩) hb).trans Q.out.2.2; clear hSw; go_simp; first | done | with_reducible rfl)
        try simp only [Act.put, List.setIfInBounds_toArray, List.set_cons_zero, List.set_cons_succ]
        refine wpAnyH_take (i := 6) (oi := { dst := some 29, op := Op.move (Operand.tmp 5), type := 3, pos := "ref.go:82", after := #[], guard := none }) (v := ?_) rfl (by kernel_rfl) (by kernel_rfl) (by kernel_rfl) (fun _ _ _ h => h) (Or.inl ⟨by rfl, ?_⟩) (by assumption) ?_
        rotate_left
        · (intro wq hSw; (try dsimp only at hSw); have a0 := hSw.d.c0; have n0 := (hSw.below.cell (p := ⟨bi, oi + j, none⟩) hbi).trans NI.out;have p0 := (hSw.below.cell (p := ⟨b, o + j * 3, none⟩) hb).trans Q.out.1; have p1 := (hSw.below.cell (p := ⟨b, o + j * 3 + 1, none⟩) hb).trans Q.out.2.1; have p2 := (hSw.below.cell (p := ⟨b, o + j * 3 + 2, none⟩) hb).trans Q.out.2.2; clear hSw; go_simp; first | done | with_reducible rfl)
        try simp only [Act.put, List.setIfInBounds_toArray, List.set_cons_zero, List.set_cons_succ]
        refine wpAnyH_take (i := 7) (oi := { dst := some 30, op := Op.indexAddr 48 (Operand.tmp 28) (Operand.tmp 29), type := 0, pos := "ref.go:82", after := #[{ on := 5, ground := Ground.data }, { on := 6, ground := Ground.data }], guard := none }) (v := ?_) rfl (by kernel_rfl) (by kernel_rfl) (by kernel_rfl) (fun _ _ _ h => h) (Or.inl ⟨by rfl, ?_⟩) (by assumption) ?_
        rotate_left
        · (intro wq hSw; (try dsimp only at hSw); have a0 := hSw.d.c0; have n0 := (hSw.below.cell (p := ⟨bi, oi + j, none⟩) hbi).trans NI.out;have p0 := (hSw.below.cell (p := ⟨b, o + j * 3, none⟩) hb).trans Q.out.1; have p1 := (hSw.below.cell (p := ⟨b, o + j * 3 + 1, none⟩) hb).trans Q.out.2.1; have p2 := (hSw.below.cell (p := ⟨b, o + j * 3 + 2, none⟩) hb).trans Q.out.2.2; clear hSw; go_simp; first | done | with_reducible rfl)
        try simp only [Act.put, List.setIfInBounds_toArray, List.set_cons_zero, List.set_cons_succ]
        refine wpAnyH_take (i := 8) (oi := { dst := some 31, op := Op.load 3 (Operand.tmp 30), type := 3, pos := "ref.go:82", after := #[{ on := 7, ground := Ground.data }], guard := none }) (v := ?_) rfl (by kernel_rfl) (by kernel_rfl) (by kernel_rfl) (fun _ _ _ h => h) (Or.inl ⟨by rfl, ?_⟩) (by assumption) ?_
        rotate_left
        · (intro wq hSw; (try dsimp only at hSw); have a0 := hSw.d.c0; have n0 := (hSw.below.cell (p := ⟨bi, oi + j, none⟩) hbi).trans NI.out;have p0 := (hSw.below.cell (p := ⟨b, o + j * 3, none⟩) hb).trans Q.out.1; have p1 := (hSw.below.cell (p := ⟨b, o + j * 3 + 1, none⟩) hb).trans Q.out.2.1; have p2 := (hSw.below.cell (p := ⟨b, o + j * 3 + 2, none⟩) hb).trans Q.out.2.2; clear hSw; go_simp; first | done | with_reducible rfl)
        try simp only [Act.put, List.setIfInBounds_toArray, List.set_cons_zero, List.set_cons_succ]
        refine wpAnyH_ready (rs := [9]) (by kernel_rfl) (by simp) ?_
        refine AllReadyH.cons (o := { dst := some 32, op := Op.call { callee := Callee.value (Operand.func 29), args := #[Operand.tmp 27, Operand.tmp 31], argTypes := #[23, 3] }, type := 4, pos := "ref.go:82", after := #[{ on := 4, ground := Ground.data }, { on := 8, ground := Ground.data }], guard := none }) rfl (fun K hK => ?_) AllReadyH.nil
        go_simp
        refine (refHas_any x.1 x.2.1 x.2.2 n _ ox.1 ox.2.1 ox.2.2).mono ?_
        rintro e v1 ⟨rfl, hq⟩
        have hq : Below v0.heap.size v0 v1 := ⟨hq.os, hq.tape, hq.output, hq.size, hq.block⟩
        have hS := hHeld.keep hq
        go_wp2_with fail
        refine hK.out _ _ hS (fun hHeld => ?_)
        clear hK K hHeld
        clear hq
        have hHeld := hS
        clear hS
        try simp only [Act.put, List.setIfInBounds_toArray, List.set_cons_zero, List.set_cons_succ]
        refine wpAnyH_take (i := 10) (oi := { dst := some 33, op := Op.unOp UnOp.not 4 (Operand.tmp 32), type := 4, pos := "ref.go:82", after := #[{ on := 9, ground := Ground.data }], guard := none }) (v := ?_) rfl (by kernel_rfl) (by kernel_rfl) (by kernel_rfl) (fun _ _ _ h => h) (Or.inl ⟨by rfl, ?_⟩) (by assumption) ?_
        rotate_left
        · (intro wq hSw; (try dsimp only at hSw); have a0 := hSw.d.c0; have n0 := (hSw.below.cell (p := ⟨bi, oi + j, none⟩) hbi).trans NI.out;have p0 := (hSw.below.cell (p := ⟨b, o + j * 3, none⟩) hb).trans Q.out.1; have p1 := (hSw.below.cell (p := ⟨b, o + j * 3 + 1, none⟩) hb).trans Q.out.2.1; have p2 := (hSw.below.cell (p := ⟨b, o + j * 3 + 2, none⟩) hb).trans Q.out.2.2; clear hSw; go_simp; first | done | with_reducible rfl)
        try simp only [Act.put, List.setIfInBounds_toArray, List.set_cons_zero, List.set_cons_succ]
        refine wpAnyH_done (by kernel_rfl) ?_ _
        have D4 := Lib.hid hHeld
        clear hHeld
        cases c : posB x.1 x.2.1 x.2.2 n
        · have O : Hid (posOk L ns (j + 1) = false) := Lib.hid (by rw [posOk_next FX.out FN.out hp.out, c])
          have E : Hid (dposB L k s h ns = false) := Lib.hid (by rw [dposB_good CC.out LN.out]; have := posOk_false O.out (L.length - (j + 1)); rwa [show j + 1 + (L.length - (j + 1)) = L.length by omega] at this)
          clear c
          go_wp2
          rw [E.out]
          exact bodyPost_ret (v := .bool false) (by simp [results, Try.results72, go_sem, *]) rfl ⟨rfl, D4.out.below⟩
        · have O : Hid (posOk L ns (j + 1) = true) := Lib.hid (by rw [posOk_next FX.out FN.out hp.out, c])
          clear c
          go_wp2_with fail
          go_roundg (L.length - j)
          case measure => exact KG.out
          case rel => exact ⟨j + 1, by go_num, ⟨by omega, by omega⟩, O, D4⟩
      · obtain rfl : j = L.length := by omega
        have hj2 : ¬ L.length < ns.length := by have := LN.out; omega
        have E : Hid (dposB L k s h ns = true) := Lib.hid (by rw [dposB_good CC.out LN.out, hp.out])
        clear hp
        go_wp2
        rw [E.out]
        exact bodyPost_ret (v := .bool true) (by simp [results, Try.results72, go_sem, *]) rfl ⟨rfl, D2.out.below⟩
  · have E : Hid (dposB L k s h ns = false) := Lib.hid (by
      by_cases c : dchk L k s h = 0
      · exact dposB_len (fun e => cb ⟨c, e⟩)
      · exact dposB_bad c)
    have EN : Hid (dposN L k s h ns = 0) := Lib.hid (dposN_no E.out)
    by_cases c : dchk L k s h = 0
    · have c' : (dchk L k s h != 0) = false := by simp [c]
      have l' : ((ns.length : Int) != (L.length : Int)) = true := by have : ¬ ns.length = L.length := fun e => cb ⟨c, e⟩; simp; omega
      clear c cb
      go_wp2
      rw [E.out]
      exact bodyPost_ret (v := .bool false) (by simp [results, Try.results72, go_sem, *]) rfl ⟨rfl, D1.out.below⟩
    · have c' : (dchk L k s h != 0) = true := by simp [c]
      clear c cb
      go_wp2
      rw [E.out]
      exact bodyPost_ret (v := .bool false) (by simp [results, Try.results72, go_sem, *]) rfl ⟨rfl, D1.out.below⟩
set_option maxRecDepth 100000 in
set_option maxHeartbeats 3200000 in
theorem rPos_any (v : Value) (L : List R3) (k s h : Int) (iv : Value) (ns : List Int) (w : World) (hr : Rd w v L) (hL : Ok3 L) (hi : Ri w iv ns) (hns : Ok1 ns) :
    Calls Try.prog 65 #[.agg #[v, .int .i64 k, .int .i64 s, .int .i64 h], iv] w fun e w' => e = .returned (.tuple #[.int .i64 (dposN L k s h ns), .bool (dposB L k s h ns)]) ∧ Below w.heap.size w w' := by
  obtain ⟨ao, cap, rfl, hc⟩ := hr
  obtain ⟨ai, ci, rfl, hci⟩ := hi
  have HR : Hid (Rd w (.slice ao L.length cap) L) := Lib.hid ⟨ao, cap, rfl, hc⟩
  have HI : Hid (Ri w (.slice ai ns.length ci) ns) := Lib.hid ⟨ai, ci, rfl, hci⟩
  have HC := Lib.hid hc
  have HIC := Lib.hid hci
  have HL := Lib.hid hL
  have HN := Lib.hid hns
  clear hc hci hL hns
  go_enter Try.func65, Try.ntmps65
  go_wp2_with fail
  refine (rHas_any _ L _ _ _ _ ns _ (HR.out.keep (below_new _ _)) HL.out (HI.out.keep (below_new _ _)) HN.out).mono ?_
  rintro e w1 ⟨rfl, hb1⟩
  have R1 := resD hb1
  have D1 : Hid (DSt w (.slice ao L.length cap) k s h w1) := Lib.hid ⟨R1.1, R1.2⟩
  clear hb1 R1
  cases c : dposB L k s h ns
  · have EN : Hid (dposN L k s h ns = 0) := Lib.hid (dposN_no c)
    have E := Lib.hid c
    clear c
    go_wp2
    first | rw [E.out, EN.out] | rw [EN.out]
    exact bodyPost_ret (v := .tuple #[.int .i64 0, .bool false]) (by simp [results, Try.results65, go_sem, *]) rfl ⟨rfl, D1.out.below⟩
  · have hc2 : dchk L k s h = 0 ∧ ns.length = L.length := by
      unfold dposB at c
      simp at c
      exact ⟨c.1, c.2.1⟩
    have EN : Hid (dposN L k s h ns = posP L ns L.length) := Lib.hid (dposN_yes c)
    have LN := Lib.hid hc2.2
    have E := Lib.hid c
    have rk := Lib.hid (dchk_rank hc2.1)
    obtain ⟨b, o, rfl, hb, hcell⟩ := HC.out.resolve_left (by have := rk.out; omega)
    obtain ⟨bi, oi, rfl, hbi, hicell⟩ := HIC.out.resolve_left (by have := rk.out; have := LN.out; omega)
    have CL := Lib.hid hcell
    have CI := Lib.hid hicell
    clear c hc2 hcell hicell HC HIC
    have n2 : (L.length : Int) ≤ 2 := by have := rk.out; omega
    go_wp2_with fail
    go_loopg [6, 7, 8, 9] (L.length + 1) (fun gh v6 v7 _ _ wr => ∃ j : Nat, v7 = .int .i64 j ∧ v6 = .int .i64 (posP L ns j) ∧ (j ≤ L.length ∧ L.length - j < gh) ∧ Hid (DSt w (.slice (some ⟨b, o, none⟩) L.length cap) k s h wr))
    case atStart => exact ⟨0, rfl, rfl, ⟨by omega, by omega⟩, D1⟩
    case round =>
      obtain ⟨j, rfl, rfl, ⟨j0, jg⟩, D2⟩ := hrel
      have KG := Lib.hid jg
      clear jg
      by_cases hj : j < L.length
      · have hj2 : j < ns.length := by have := LN.out; omega
        have jw : IntKind.i64.wrap ((j : Int) + 1) = (j : Int) + 1 := IntWalk.i64_in _ (by omega)
        have m2 : (ns.length : Int) ≤ 2 := by have := LN.out; omega
        obtain ⟨x, hx⟩ : ∃ x, L[j]? = some x := ⟨L[j], List.getElem?_eq_getElem hj⟩
        obtain ⟨n, hn⟩ : ∃ n, ns[j]? = some n := ⟨ns[j], List.getElem?_eq_getElem hj2⟩
        obtain ⟨q0, q1, q2⟩ := CL.out j x hx
        have NI := Lib.hid (CI.out j n hn)
        have ox := HL.out x (List.mem_of_getElem? hx)
        have on := HN.out n (List.mem_of_getElem? hn)
        have FX := Lib.hid hx
        have FN := Lib.hid hn
        clear hx hn
        have Q := Lib.hid (And.intro q0 (And.intro q1 q2))
        clear q0 q1 q2
        go_upto_region 7 with fail
        refine wp_region_held_drew (S := (fun w' => DSt w (.slice (some ⟨b, o, none⟩) L.length cap) k s h w')) (by kernel_rfl) (D2.out.keep (to_drew (Below.refl _ _))) (fun hHeld => ?_)
        clear D2
        obtain ⟨v0, hv0⟩ : ∃ v0, v0 = wr.drew := ⟨_, rfl⟩
        rw [← hv0] at hHeld ⊢
        clear hv0
        refine wpAnyH_take (i := 0) (oi := { dst := some 21, op := Op.fieldAddr 62 (Operand.tmp 2) 0, type := 0, pos := "ref.go:114", after := #[], guard := none }) (v := ?_) rfl (by kernel_rfl) (by kernel_rfl) (by kernel_rfl) (fun _ _ _ h => h) (Or.inl ⟨by rfl, ?_⟩) (by assumption) ?_
        rotate_left
        · (intro wq hSw; (try dsimp only at hSw); have a0 := hSw.d.c0; have n0 := (hSw.below.cell (p := ⟨bi, oi + j, none⟩) hbi).trans NI.out;have p0 := (hSw.below.cell (p := ⟨b, o + j * 3, none⟩) hb).trans Q.out.1; have p1 := (hSw.below.cell (p := ⟨b, o + j * 3 + 1, none⟩) hb).trans Q.out.2.1; have p2 := (hSw.below.cell (p := ⟨b, o + j * 3 + 2, none⟩) hb).trans Q.out.2.2; clear hSw; go_simp; first | done | with_reducible rfl)
        try simp only [Act.put, List.setIfInBounds_toArray, List.set_cons_zero, List.set_cons_succ]
        refine wpAnyH_take (i := 1) (oi := { dst := some 22, op := Op.load 40 (Operand.tmp 21), type := 40, pos := "ref.go:114", after := #[{ on := 0, ground := Ground.data }], guard := none }) (v := ?_) rfl (by kernel_rfl) (by kernel_rfl) (by kernel_rfl) (fun _ _ _ h => h) (Or.inl ⟨by rfl, ?_⟩) (by assumption) ?_
        rotate_left
        · (intro wq hSw; (try dsimp only at hSw); have a0 := hSw.d.c0; have n0 := (hSw.below.cell (p := ⟨bi, oi + j, none⟩) hbi).trans NI.out;have p0 := (hSw.below.cell (p := ⟨b, o + j * 3, none⟩) hb).trans Q.out.1; have p1 := (hSw.below.cell (p := ⟨b, o + j * 3 + 1, none⟩) hb).trans Q.out.2.1; have p2 := (hSw.below.cell (p := ⟨b, o + j * 3 + 2, none⟩) hb).trans Q.out.2.2; clear hSw; go_simp; first | done | with_reducible rfl)
        try simp only [Act.put, List.setIfInBounds_toArray, List.set_cons_zero, List.set_cons_succ]
        refine wpAnyH_take (i := 2) (oi := { dst := some 23, op := Op.move (Operand.tmp 7), type := 3, pos := "ref.go:114", after := #[], guard := none }) (v := ?_) rfl (by kernel_rfl) (by kernel_rfl) (by kernel_rfl) (fun _ _ _ h => h) (Or.inl ⟨by rfl, ?_⟩) (by assumption) ?_
        rotate_left
        · (intro wq hSw; (try dsimp only at hSw); have a0 := hSw.d.c0; have n0 := (hSw.below.cell (p := ⟨bi, oi + j, none⟩) hbi).trans NI.out;have p0 := (hSw.below.cell (p := ⟨b, o + j * 3, none⟩) hb).trans Q.out.1; have p1 := (hSw.below.cell (p := ⟨b, o + j * 3 + 1, none⟩) hb).trans Q.out.2.1; have p2 := (hSw.below.cell (p := ⟨b, o + j * 3 + 2, none⟩) hb).trans Q.out.2.2; clear hSw; go_simp; first | done | with_reducible rfl)
        try simp only [Act.put, List.setIfInBounds_toArray, List.set_cons_zero, List.set_cons_succ]
        refine wpAnyH_take (i := 3) (oi := { dst := some 24, op := Op.indexAddr 40 (Operand.tmp 22) (Operand.tmp 23), type := 0, pos := "ref.go:114", after := #[{ on := 1, ground := Ground.data }, { on := 2, ground := Ground.data }], guard := none }) (v := ?_) rfl (by kernel_rfl) (by kernel_rfl) (by kernel_rfl) (fun _ _ _ h => h) (Or.inl ⟨by rfl, ?_⟩) (by assumption) ?_
        rotate_left
        · (intro wq hSw; (try dsimp only at hSw); have a0 := hSw.d.c0; have n0 := (hSw.below.cell (p := ⟨bi, oi + j, none⟩) hbi).trans NI.out;have p0 := (hSw.below.cell (p := ⟨b, o + j * 3, none⟩) hb).trans Q.out.1; have p1 := (hSw.below.cell (p := ⟨b, o + j * 3 + 1, none⟩) hb).trans Q.out.2.1; have p2 := (hSw.below.cell (p := ⟨b, o + j * 3 + 2, none⟩) hb).trans Q.out.2.2; clear hSw; go_simp; first | done | with_reducible rfl)
        try simp only [Act.put, List.setIfInBounds_toArray, List.set_cons_zero, List.set_cons_succ]
        refine wpAnyH_take (i := 4) (oi := { dst := some 25, op := Op.load 23 (Operand.tmp 24), type := 23, pos := "ref.go:114", after := #[{ on := 3, ground := Ground.data }], guard := none }) (v := ?_) rfl (by kernel_rfl) (by kernel_rfl) (by kernel_rfl) (fun _ _ _ h => h) (Or.inl ⟨by rfl, ?_⟩) (by assumption) ?_
        rotate_left
        · (intro wq hSw; (try dsimp only at hSw); have a0 := hSw.d.c0; have n0 := (hSw.below.cell (p := ⟨bi, oi + j, none⟩) hbi).trans NI.out;have p0 := (hSw.below.cell (p := ⟨b, o + j * 3, none⟩) hb).trans Q.out.1; have p1 := (hSw.below.cell (p := ⟨b, o + j * 3 + 1, none⟩) hb).trans Q.out.2.1; have p2 := (hSw.below.cell (p := ⟨b, o + j * 3 + 2, none⟩) hb).trans Q.out.2.2; clear hSw; go_simp; first | done | with_reducible rfl)
        try simp only [Act.put, List.setIfInBounds_toArray, List.set_cons_zero, List.set_cons_succ]
        refine wpAnyH_take (i := 5) (oi := { dst := some 26, op := Op.move (Operand.tmp 1), type := 48, pos := "ref.go:114", after := #[], guard := none }) (v := ?_) rfl (by kernel_rfl) (by kernel_rfl) (by kernel_rfl) (fun _ _ _ h => h) (Or.inl ⟨by rfl, ?_⟩) (by assumption) ?_
        rotate_left
        · (intro wq hSw; (try dsimp only at hSw); have a0 := hSw.d.c0; have n0 := (hSw.below.cell (p := ⟨bi, oi + j, none⟩) hbi).trans NI.out;have p0 := (hSw.below.cell (p := ⟨b, o + j * 3, none⟩) hb).trans Q.out.1; have p1 := (hSw.below.cell (p := ⟨b, o + j * 3 + 1, none⟩) hb).trans Q.out.2.1; have p2 := (hSw.below.cell (p := ⟨b, o + j * 3 + 2, none⟩) hb).trans Q.out.2.2; clear hSw; go_simp; first | done | with_reducible rfl)
        try simp only [Act.put, List.setIfInBounds_toArray, List.set_cons_zero, List.set_cons_succ]
        refine wpAnyH_take (i := 6) (oi := { dst := some 27, op := Op.move (Operand.tmp 7), type := 3, pos := "ref.go:114", after := #[], guard := none }) (v := ?_) rfl (by kernel_rfl) (by kernel_rfl) (by kernel_rfl) (fun _ _ _ h => h) (Or.inl ⟨by rfl, ?_⟩) (by assumption) ?_
        rotate_left
        · (intro wq hSw; (try dsimp only at hSw); have a0 := hSw.d.c0; have n0 := (hSw.below.cell (p := ⟨bi, oi + j, none⟩) hbi).trans NI.out;have p0 := (hSw.below.cell (p := ⟨b, o + j * 3, none⟩) hb).trans Q.out.1; have p1 := (hSw.below.cell (p := ⟨b, o + j * 3 + 1, none⟩) hb).trans Q.out.2.1; have p2 := (hSw.below.cell (p := ⟨b, o + j * 3 + 2, none⟩) hb).trans Q.out.2.2; clear hSw; go_simp; first | done | with_reducible rfl)
        try simp only [Act.put, List.setIfInBounds_toArray, List.set_cons_zero, List.set_cons_succ]
        refine wpAnyH_take (i := 7) (oi := { dst := some 28, op := Op.indexAddr 48 (Operand.tmp 26) (Operand.tmp 27), type := 0, pos := "ref.go:114", after := #[{ on := 5, ground := Ground.data }, { on := 6, ground := Ground.data }], guard := none }) (v := ?_) rfl (by kernel_rfl) (by kernel_rfl) (by kernel_rfl) (fun _ _ _ h => h) (Or.inl ⟨by rfl, ?_⟩) (by assumption) ?_
        rotate_left
        · (intro wq hSw; (try dsimp only at hSw); have a0 := hSw.d.c0; have n0 := (hSw.below.cell (p := ⟨bi, oi + j, none⟩) hbi).trans NI.out;have p0 := (hSw.below.cell (p := ⟨b, o + j * 3, none⟩) hb).trans Q.out.1; have p1 := (hSw.below.cell (p := ⟨b, o + j * 3 + 1, none⟩) hb).trans Q.out.2.1; have p2 := (hSw.below.cell (p := ⟨b, o + j * 3 + 2, none⟩) hb).trans Q.out.2.2; clear hSw; go_simp; first | done | with_reducible rfl)
        try simp only [Act.put, List.setIfInBounds_toArray, List.set_cons_zero, List.set_cons_succ]
        refine wpAnyH_take (i := 8) (oi := { dst := some 29, op := Op.load 3 (Operand.tmp 28), type := 3, pos := "ref.go:114", after := #[{ on := 7, ground := Ground.data }], guard := none }) (v := ?_) rfl (by kernel_rfl) (by kernel_rfl) (by kernel_rfl) (fun _ _ _ h => h) (Or.inl ⟨by rfl, ?_⟩) (by assumption) ?_
        rotate_left
        · (intro wq hSw; (try dsimp only at hSw); have a0 := hSw.d.c0; have n0 := (hSw.below.cell (p := ⟨bi, oi + j, none⟩) hbi).trans NI.out;have p0 := (hSw.below.cell (p := ⟨b, o + j * 3, none⟩) hb).trans Q.out.1; have p1 := (hSw.below.cell (p := ⟨b, o + j * 3 + 1, none⟩) hb).trans Q.out.2.1; have p2 := (hSw.below.cell (p := ⟨b, o + j * 3 + 2, none⟩) hb).trans Q.out.2.2; clear hSw; go_simp; first | done | with_reducible rfl)
        try simp only [Act.put, List.setIfInBounds_toArray, List.set_cons_zero, List.set_cons_succ]
        refine wpAnyH_ready (rs := [9]) (by kernel_rfl) (by simp) ?_
        refine AllReadyH.cons (o := { dst := some 30, op := Op.call { callee := Callee.value (Operand.func 23), args := #[Operand.tmp 25, Operand.tmp 29], argTypes := #[23, 3] }, type := 29, pos := "ref.go:114", after := #[{ on := 4, ground := Ground.data }, { on := 8, ground := Ground.data }], guard := none }) rfl (fun K hK => ?_) AllReadyH.nil
        go_simp
        refine (refPosition_any x.1 x.2.1 x.2.2 n _ ox.1 ox.2.1 ox.2.2).mono ?_
        rintro e v1 ⟨rfl, hq⟩
        have hq : Below v0.heap.size v0 v1 := ⟨hq.os, hq.tape, hq.output, hq.size, hq.block⟩
        have hS := hHeld.keep hq
        go_wp2_with fail
        refine hK.out _ _ hS (fun hHeld => ?_)
        clear hK K hHeld
        clear hq
        have hHeld := hS
        clear hS
        try simp only [Act.put, List.setIfInBounds_toArray, List.set_cons_zero, List.set_cons_succ]
        refine wpAnyH_take (i := 10) (oi := { dst := some 20, op := Op.move (Operand.tmp 30), type := 29, pos := "ref.go:114", after := #[{ on := 9, ground := Ground.data }], guard := none }) (v := ?_) rfl (by kernel_rfl) (by kernel_rfl) (by kernel_rfl) (fun _ _ _ h => h) (Or.inl ⟨by rfl, ?_⟩) (by assumption) ?_
        rotate_left
        · (intro wq hSw; (try dsimp only at hSw); have a0 := hSw.d.c0; have n0 := (hSw.below.cell (p := ⟨bi, oi + j, none⟩) hbi).trans NI.out;have p0 := (hSw.below.cell (p := ⟨b, o + j * 3, none⟩) hb).trans Q.out.1; have p1 := (hSw.below.cell (p := ⟨b, o + j * 3 + 1, none⟩) hb).trans Q.out.2.1; have p2 := (hSw.below.cell (p := ⟨b, o + j * 3 + 2, none⟩) hb).trans Q.out.2.2; clear hSw; go_simp; first | done | with_reducible rfl)
        try simp only [Act.put, List.setIfInBounds_toArray, List.set_cons_zero, List.set_cons_succ]
        refine wpAnyH_take (i := 11) (oi := { dst := some 31, op := Op.extract (Operand.tmp 20) 0, type := 3, pos := "ref.go:114", after := #[{ on := 10, ground := Ground.data }], guard := none }) (v := ?_) rfl (by kernel_rfl) (by kernel_rfl) (by kernel_rfl) (fun _ _ _ h => h) (Or.inl ⟨by rfl, ?_⟩) (by assumption) ?_
        rotate_left
        · (intro wq hSw; (try dsimp only at hSw); have a0 := hSw.d.c0; have n0 := (hSw.below.cell (p := ⟨bi, oi + j, none⟩) hbi).trans NI.out;have p0 := (hSw.below.cell (p := ⟨b, o + j * 3, none⟩) hb).trans Q.out.1; have p1 := (hSw.below.cell (p := ⟨b, o + j * 3 + 1, none⟩) hb).trans Q.out.2.1; have p2 := (hSw.below.cell (p := ⟨b, o + j * 3 + 2, none⟩) hb).trans Q.out.2.2; clear hSw; go_simp; first | done | with_reducible rfl)
        try simp only [Act.put, List.setIfInBounds_toArray, List.set_cons_zero, List.set_cons_succ]
        refine wpAnyH_take (i := 12) (oi := { dst := some 32, op := Op.extract (Operand.tmp 20) 1, type := 4, pos := "ref.go:114", after := #[{ on := 10, ground := Ground.data }, { on := 13, ground := Ground.gcOnly Departure.lateStores }], guard := none }) (v := ?_) rfl (by kernel_rfl) (by kernel_rfl) (by kernel_rfl) (fun _ _ _ h => h) (Or.inl ⟨by rfl, ?_⟩) (by assumption) ?_
        rotate_left
        · (intro wq hSw; (try dsimp only at hSw); have a0 := hSw.d.c0; have n0 := (hSw.below.cell (p := ⟨bi, oi + j, none⟩) hbi).trans NI.out;have p0 := (hSw.below.cell (p := ⟨b, o + j * 3, none⟩) hb).trans Q.out.1; have p1 := (hSw.below.cell (p := ⟨b, o + j * 3 + 1, none⟩) hb).trans Q.out.2.1; have p2 := (hSw.below.cell (p := ⟨b, o + j * 3 + 2, none⟩) hb).trans Q.out.2.2; clear hSw; go_simp; first | done | with_reducible rfl)
        try simp only [Act.put, List.setIfInBounds_toArray, List.set_cons_zero, List.set_cons_succ]
        refine wpAnyH_take (i := 13) (oi := { dst := some 8, op := Op.assign (Operand.tmp 31), type := 3, pos := "ref.go:114", after := #[{ on := 11, ground := Ground.data }, { on := 9, ground := Ground.chain }, { on := 0, ground := Ground.phase }, { on := 1, ground := Ground.phase }, { on := 2, ground := Ground.phase }, { on := 3, ground := Ground.phase }, { on := 4, ground := Ground.phase }, { on := 5, ground := Ground.phase }, { on := 6, ground := Ground.phase }, { on := 7, ground := Ground.phase }, { on := 8, ground := Ground.phase }, { on := 9, ground := Ground.phase }, { on := 10, ground := Ground.phase }, { on := 11, ground := Ground.phase }, { on := 12, ground := Ground.textOnly Departure.lateStores }], guard := none }) (v := ?_) rfl (by kernel_rfl) (by kernel_rfl) (by kernel_rfl) (fun _ _ _ h => h) (Or.inl ⟨by rfl, ?_⟩) (by assumption) ?_
        rotate_left
        · (intro wq hSw; (try dsimp only at hSw); have a0 := hSw.d.c0; have n0 := (hSw.below.cell (p := ⟨bi, oi + j, none⟩) hbi).trans NI.out;have p0 := (hSw.below.cell (p := ⟨b, o + j * 3, none⟩) hb).trans Q.out.1; have p1 := (hSw.below.cell (p := ⟨b, o + j * 3 + 1, none⟩) hb).trans Q.out.2.1; have p2 := (hSw.below.cell (p := ⟨b, o + j * 3 + 2, none⟩) hb).trans Q.out.2.2; clear hSw; go_simp; first | done | with_reducible rfl)
        try simp only [Act.put, List.setIfInBounds_toArray, List.set_cons_zero, List.set_cons_succ]
        refine wpAnyH_take (i := 14) (oi := { dst := some 9, op := Op.assign (Operand.tmp 32), type := 4, pos := "ref.go:114", after := #[{ on := 12, ground := Ground.data }, { on := 13, ground := Ground.chain }, { on := 0, ground := Ground.phase }, { on := 1, ground := Ground.phase }, { on := 2, ground := Ground.phase }, { on := 3, ground := Ground.phase }, { on := 4, ground := Ground.phase }, { on := 5, ground := Ground.phase }, { on := 6, ground := Ground.phase }, { on := 7, ground := Ground.phase }, { on := 8, ground := Ground.phase }, { on := 9, ground := Ground.phase }, { on := 10, ground := Ground.phase }, { on := 11, ground := Ground.phase }, { on := 12, ground := Ground.phase }, { on := 13, ground := Ground.phase }], guard := none }) (v := ?_) rfl (by kernel_rfl) (by kernel_rfl) (by kernel_rfl) (fun _ _ _ h => h) (Or.inl ⟨by rfl, ?_⟩) (by assumption) ?_
        rotate_left
        · (intro wq hSw; (try dsimp only at hSw); have a0 := hSw.d.c0; have n0 := (hSw.below.cell (p := ⟨bi, oi + j, none⟩) hbi).trans NI.out;have p0 := (hSw.below.cell (p := ⟨b, o + j * 3, none⟩) hb).trans Q.out.1; have p1 := (hSw.below.cell (p := ⟨b, o + j * 3 + 1, none⟩) hb).trans Q.out.2.1; have p2 := (hSw.below.cell (p := ⟨b, o + j * 3 + 2, none⟩) hb).trans Q.out.2.2; clear hSw; go_simp; first | done | with_reducible rfl)
        try simp only [Act.put, List.setIfInBounds_toArray, List.set_cons_zero, List.set_cons_succ]
        refine wpAnyH_done (by kernel_rfl) ?_ _
        have D4 := Lib.hid hHeld
        clear hHeld
        have PN := Lib.hid (posP_next FX.out FN.out)
        have mb := mul_bdQ (posP_nonneg L ns j) (posP_one L ns (show j ≤ 1 by omega)) (siz_bdA x.1 x.2.1 x.2.2).1 (siz_bdA x.1 x.2.1 x.2.2).2
        have nb := posN_bd x.1 x.2.1 x.2.2 n
        have w1 : IntKind.i64.wrap (posP L ns j * siz x.1 x.2.1 x.2.2) = posP L ns j * siz x.1 x.2.1 x.2.2 := IntWalk.i64_in _ (by omega)
        have w2 : IntKind.i64.wrap (posP L ns j * siz x.1 x.2.1 x.2.2 + posN x.1 x.2.1 x.2.2 n) = posP L ns j * siz x.1 x.2.1 x.2.2 + posN x.1 x.2.1 x.2.2 n := IntWalk.i64_in _ (by omega)
        have a0 := D4.out.d.c0
        have p0 := (D4.out.below.cell (p := ⟨b, o + j * 3, none⟩) hb).trans Q.out.1
        have p1 := (D4.out.below.cell (p := ⟨b, o + j * 3 + 1, none⟩) hb).trans Q.out.2.1
        have p2 := (D4.out.below.cell (p := ⟨b, o + j * 3 + 2, none⟩) hb).trans Q.out.2.2
        clear mb nb
        go_wp2_with fail
        refine (refSize_any x.1 x.2.1 x.2.2 _ ox.1 ox.2.1 ox.2.2).mono ?_
        rintro e w5 ⟨rfl, hb5⟩
        have D5 := Lib.hid (D4.out.keep hb5)
        clear hb5 D4 a0 p0 p1 p2
        go_wp2_with fail
        go_roundg (L.length - j)
        case measure => exact KG.out
        case rel => exact ⟨j + 1, by go_num, by rw [PN.out], ⟨by omega, by omega⟩, D5⟩
      · obtain rfl : j = L.length := by omega
        have hj2 : ¬ L.length < ns.length := by have := LN.out; omega
        go_wp2
        first | rw [E.out, EN.out] | rw [EN.out]
        exact bodyPost_ret (v := .tuple #[.int .i64 (posP L ns L.length), .bool true]) (by simp [results, Try.results65, go_sem, *]) rfl ⟨rfl, D2.out.below⟩
set_option maxRecDepth 100000 in
theorem Dhas_any (v : Value) (L : List R3) (k s h : Int) (iv : Value) (ns : List Int) (w : World) (hr : Rd w v L) (hL : Ok3 L) (hi : Ri w iv ns) (hns : Ok1 ns) :
    Calls Try.prog 71 #[.agg #[v, .int .i64 k, .int .i64 s, .int .i64 h], iv] w fun e w' => e = .returned (.bool (dposB L k s h ns)) ∧ Below w.heap.size w w' := by
  obtain ⟨ao, cap, rfl, hc⟩ := hr
  obtain ⟨ai, ci, rfl, hci⟩ := hi
  have HR : Hid (Rd w (.slice ao L.length cap) L) := Lib.hid ⟨ao, cap, rfl, hc⟩
  have HI : Hid (Ri w (.slice ai ns.length ci) ns) := Lib.hid ⟨ai, ci, rfl, hci⟩
  have HC := Lib.hid hc
  have HIC := Lib.hid hci
  have HL := Lib.hid hL
  have HN := Lib.hid hns
  clear hc hci hL hns
  go_enter Try.func71, Try.ntmps71
  go_wp2_with fail
  refine (Dpos_any _ L _ _ _ _ ns _ (HR.out.keep (below_new _ _)) HL.out (HI.out.keep (below_new _ _)) HN.out).mono ?_
  rintro e w1 ⟨rfl, hb1⟩
  have R1 := resD hb1
  clear hb1
  go_wp2
  exact bodyPost_ret (v := .bool (dposB L k s h ns)) (by simp [results, Try.results71, go_sem, *]) rfl ⟨rfl, R1.1⟩
end Go.Proofs.Ytabgphlpdoockaa
