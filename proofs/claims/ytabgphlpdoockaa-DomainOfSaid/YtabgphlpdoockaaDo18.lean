/-
  Part 18: LawDo.
-/
import Derived.Test.YtabgphlpdoockaaDo14
import Derived.Test.YtabgphlpdoockaaDo15
import Derived.Test.YtabgphlpdoockaaDo16
import Derived.Test.YtabgphlpdoockaaDo17
import Derived.BigQuiet
import Derived.Deep.CutBlock
import Derived.Deep.DeepCutAuto
import Derived.Deep.DrawnRows
import Derived.Deep.LoopGhost
import Derived.Deep.QuietTactic
import Derived.Deep.RegionHeld3
import Derived.Deep.RegionWith
import Derived.Lib.Hide
import Derived.WalkKit
import Derived.WalkLawsBesides
import Derived.WalkSpells
namespace Go.Proofs.Ytabgphlpdoockaa
open Go.RowKit
/-- the ranges that Of returns, or none -/
def ofV (L : List R3) : List R3 := if ofErr L = 0 then L.map upR else []
theorem of_rd {L : List R3} {v : Value} {er : Int} {B : Nat} {w : World} (h : Hid (er = ofErr L ∧ ((er = 0 ∧ w.ownsRow B 23 3 v (L.map upR).length (cells3 (L.map upR))) ∨ (¬ er = 0 ∧ v = .slice none 0 0)))) : er = ofErr L ∧ Rd w v (ofV L) := by
  obtain ⟨rfl, h⟩ := h.out
  refine ⟨rfl, ?_⟩
  unfold ofV
  rcases h with ⟨e, own⟩ | ⟨e, rfl⟩
  · rw [if_pos e]; exact Rd.of_own own
  · rw [if_neg e]; exact ⟨none, 0, rfl, Or.inl rfl⟩
theorem ofV_len {L : List R3} : (ofV L).length ≤ 2 := by
  unfold ofV
  by_cases e : ofErr L = 0
  · rw [if_pos e, List.length_map]
    unfold ofErr at e
    by_cases r : rankB L.length = true
    · unfold rankB at r; simp at r; omega
    · rw [if_neg r] at e; omega
  · rw [if_neg e]; simp
/-- the index that Nth returns, or none -/
def nthW (L : List R3) (k s h i : Int) : List Int := if dnthE L k s h i = 0 then idxL L i else []
theorem nth_own {L : List R3} {k s h i er : Int} {v : Value} {B : Nat} {w : World} (q : Hid (er = dnthE L k s h i ∧ ((er = 0 ∧ w.ownsRow B 3 1 v (idxL L i).length ((idxL L i).map (Value.int .i64))) ∨ (¬ er = 0 ∧ v = .slice none 0 0)))) :
    er = dnthE L k s h i ∧ w.ownsRow B 3 1 v (nthW L k s h i).length ((nthW L k s h i).map (Value.int .i64)) := by
  obtain ⟨rfl, h⟩ := q.out
  refine ⟨rfl, ?_⟩
  unfold nthW
  rcases h with ⟨e, own⟩ | ⟨e, rfl⟩
  · rw [if_pos e]; exact own
  · rw [if_neg e]; exact World.ownsRow_nil _ _ _ _
theorem nthW_len {L : List R3} {k s h i : Int} : (nthW L k s h i).length ≤ 2 := by
  unfold nthW
  by_cases e : dnthE L k s h i = 0
  · rw [if_pos e, idxL_len]
    unfold dnthE at e
    by_cases c : dchk L k s h = 0
    · have := dchk_rank c; omega
    · rw [if_neg c] at e; exact absurd e c
  · rw [if_neg e]; simp
/-- the law's blocks -/
structure LDo (w : World) (dv : Value) (k s h : Int) (ga : Nat) (va : Value) (gb : Nat) (vb : Value) (LA : List R3) (B1 : Nat) (vx : Value) (B2 : Nat) (vy : Value) (xs : List Int) (wr : World) : Prop where
  below : Below w.heap.size w wr
  d : Blk w.heap.size dv (.int .i64 k) (.int .i64 s) (.int .i64 h) wr
  a : Blk ga va (.int .i64 0) (.int .i64 0) (.int .i64 0) wr
  b : Blk gb vb (.int .i64 0) (.int .i64 0) (.int .i64 0) wr
  ra : Rd wr va LA
  rb : Rd wr vb LA
  ox : wr.ownsRow B1 3 1 vx xs.length (xs.map (Value.int .i64))
  oy : wr.ownsRow B2 3 1 vy xs.length (xs.map (Value.int .i64))
theorem LDo.keep {w : World} {dv : Value} {k s h : Int} {ga : Nat} {va : Value} {gb : Nat} {vb : Value} {LA : List R3} {B1 : Nat} {vx : Value} {B2 : Nat} {vy : Value} {xs : List Int} {wa wb : World} (t : LDo w dv k s h ga va gb vb LA B1 vx B2 vy xs wa) (hb : Below wa.heap.size wa wb) : LDo w dv k s h ga va gb vb LA B1 vx B2 vy xs wb :=
  ⟨t.below.trans (hb.mono t.below.size), t.d.keep hb, t.a.keep hb, t.b.keep hb, t.ra.keep hb, t.rb.keep hb, owns_below t.ox hb, owns_below t.oy hb⟩
set_option maxRecDepth 100000 in
set_option maxHeartbeats 6400000 in
theorem domainOf_walk (vl : Value) (LL : List R3) (v : Value) (L : List R3) (k s h : Int) (iv : Value) (ns : List Int) (i : Int) (w : World) (hrl : Rd w vl LL) (hLl : Ok3 LL) (hr : Rd w v L) (hL : Ok3 L) (hri : Ri w iv ns) (hN : Ok1 ns) :
    Calls Try.prog 11 #[vl, .agg #[v, .int .i64 k, .int .i64 s, .int .i64 h], iv, .int .i64 i] w fun e w' => e = .returned (.bool true) ∧ Below w.heap.size w w' := by
  have HLl := Lib.hid hLl
  have HL := Lib.hid hL
  have HN := Lib.hid hN
  have HRl : Hid (Rd w vl LL) := Lib.hid hrl
  have HR : Hid (Rd w v L) := Lib.hid hr
  have HI : Hid (Ri w iv ns) := Lib.hid hri
  obtain ⟨ol, cl, rfl, _⟩ := hrl
  obtain ⟨od, cd, rfl, _⟩ := hr
  obtain ⟨oi, ci, rfl, _⟩ := hri
  clear hLl hL hN
  go_enter Try.func11, Try.ntmps11
  go_wp2_with fail
  refine (Dof_any _ LL _ (HRl.out.keep (below_new _ _)) HLl.out).mono ?_
  rintro e w1 ⟨va, er, rfl, hb, hE⟩
  obtain ⟨rfl, ra⟩ := of_rd hE
  have R1 := resD hb
  have BL := Lib.hid R1.1
  have Kd := Lib.hid R1.2
  obtain ⟨oa, ca, rfl, qa⟩ := ra
  have Ra : Hid (Rd w1 (.slice oa (ofV LL).length ca) (ofV LL)) := Lib.hid ⟨oa, ca, rfl, qa⟩
  clear hE hb R1 qa
  go_upto_region 2 with fail
  have hb := below_new w1 (.cells #[.slice oa (ofV LL).length ca, .int .i64 0, .int .i64 0, .int .i64 0] 62)
  have Kd := Lib.hid (Kd.out.keep hb)
  have Ra := Lib.hid (Ra.out.keep hb)
  have BL := Lib.hid (BL.out.trans (hb.mono BL.out.size))
  have Ka := Lib.hid (Blk.new (.slice oa (ofV LL).length ca) (.int .i64 0) (.int .i64 0) (.int .i64 0) 62 w1)
  clear hb
  generalize w1.alloc (.cells #[.slice oa (ofV LL).length ca, .int .i64 0, .int .i64 0, .int .i64 0] 62) = u1 at *
  go_wp2_with fail
  refine (rDof_any _ LL _ (HRl.out.keep BL.out) HLl.out).mono ?_
  rintro e w2 ⟨vb, er, rfl, hb, hE⟩
  obtain ⟨rfl, rb⟩ := of_rd hE
  obtain ⟨ob, cb, rfl, qb⟩ := rb
  have Rb : Hid (Rd w2 (.slice ob (ofV LL).length cb) (ofV LL)) := Lib.hid ⟨ob, cb, rfl, qb⟩
  have Kd := Lib.hid (Kd.out.keep hb)
  have Ra := Lib.hid (Ra.out.keep hb)
  have Ka := Lib.hid (Ka.out.keep hb)
  have BL := Lib.hid (BL.out.trans (hb.mono BL.out.size))
  clear hE hb qb
  go_upto_region 3 with fail
  have hb := below_new w2 (.cells #[.slice ob (ofV LL).length cb, .int .i64 0, .int .i64 0, .int .i64 0] 62)
  have Kd := Lib.hid (Kd.out.keep hb)
  have Ra := Lib.hid (Ra.out.keep hb)
  have Ka := Lib.hid (Ka.out.keep hb)
  have Rb := Lib.hid (Rb.out.keep hb)
  have BL := Lib.hid (BL.out.trans (hb.mono BL.out.size))
  have Kb := Lib.hid (Blk.new (.slice ob (ofV LL).length cb) (.int .i64 0) (.int .i64 0) (.int .i64 0) 62 w2)
  clear hb
  generalize w2.alloc (.cells #[.slice ob (ofV LL).length cb, .int .i64 0, .int .i64 0, .int .i64 0] 62) = u2 at *
  have zKd0 := Kd.out.c0
  have zKd1 := Kd.out.c1
  have zKd2 := Kd.out.c2
  have zKd3 := Kd.out.c3
  go_wp2_with fail
  refine (Dnth_any _ L k s h i _ (HR.out.keep BL.out) HL.out).mono ?_
  rintro e w3 ⟨vx, er, rfl, hb, hE⟩
  clear zKd0 zKd1 zKd2 zKd3
  obtain ⟨rfl, ox⟩ := nth_own hE
  obtain ⟨oox, cx, rfl⟩ := owns_slice ox
  have hox := Lib.hid ox
  clear ox hE
  have Kd := Lib.hid (Kd.out.keep hb)
  have Ra := Lib.hid (Ra.out.keep hb)
  have Ka := Lib.hid (Ka.out.keep hb)
  have Rb := Lib.hid (Rb.out.keep hb)
  have Kb := Lib.hid (Kb.out.keep hb)
  have BL := Lib.hid (BL.out.trans (hb.mono BL.out.size))
  have Ox := hox
  clear hox hb
  have zKd0 := Kd.out.c0
  have zKd1 := Kd.out.c1
  have zKd2 := Kd.out.c2
  have zKd3 := Kd.out.c3
  go_wp2_with fail
  refine (rDnth_any _ L k s h i _ (HR.out.keep BL.out) HL.out).mono ?_
  rintro e w4 ⟨vy, er, rfl, hb, hE⟩
  clear zKd0 zKd1 zKd2 zKd3
  obtain ⟨rfl, oy⟩ := nth_own hE
  obtain ⟨ooy, cy, rfl⟩ := owns_slice oy
  have hoy := Lib.hid oy
  clear oy hE
  have Kd := Lib.hid (Kd.out.keep hb)
  have Ra := Lib.hid (Ra.out.keep hb)
  have Ka := Lib.hid (Ka.out.keep hb)
  have Rb := Lib.hid (Rb.out.keep hb)
  have Kb := Lib.hid (Kb.out.keep hb)
  have Ox := Lib.hid (owns_below Ox.out hb)
  have BL := Lib.hid (BL.out.trans (hb.mono BL.out.size))
  have Oy := hoy
  clear hoy hb
  have zKd0 := Kd.out.c0
  have zKd1 := Kd.out.c1
  have zKd2 := Kd.out.c2
  have zKd3 := Kd.out.c3
  go_wp2_with fail
  refine (Dpos_any _ L k s h _ ns _ (HR.out.keep BL.out) HL.out (HI.out.keep BL.out) HN.out).mono ?_
  rintro e w5 ⟨rfl, hb⟩
  clear zKd0 zKd1 zKd2 zKd3
  have Kd := Lib.hid (Kd.out.keep hb)
  have Ra := Lib.hid (Ra.out.keep hb)
  have Ka := Lib.hid (Ka.out.keep hb)
  have Rb := Lib.hid (Rb.out.keep hb)
  have Kb := Lib.hid (Kb.out.keep hb)
  have Ox := Lib.hid (owns_below Ox.out hb)
  have Oy := Lib.hid (owns_below Oy.out hb)
  have BL := Lib.hid (BL.out.trans (hb.mono BL.out.size))
  clear hb
  have zKd0 := Kd.out.c0
  have zKd1 := Kd.out.c1
  have zKd2 := Kd.out.c2
  have zKd3 := Kd.out.c3
  go_wp2_with fail
  refine (rPos_any _ L k s h _ ns _ (HR.out.keep BL.out) HL.out (HI.out.keep BL.out) HN.out).mono ?_
  rintro e w6 ⟨rfl, hb⟩
  clear zKd0 zKd1 zKd2 zKd3
  have Kd := Lib.hid (Kd.out.keep hb)
  have Ra := Lib.hid (Ra.out.keep hb)
  have Ka := Lib.hid (Ka.out.keep hb)
  have Rb := Lib.hid (Rb.out.keep hb)
  have Kb := Lib.hid (Kb.out.keep hb)
  have Ox := Lib.hid (owns_below Ox.out hb)
  have Oy := Lib.hid (owns_below Oy.out hb)
  have BL := Lib.hid (BL.out.trans (hb.mono BL.out.size))
  clear hb
  go_upto_region 7 with fail
  have ⟨BX, BY, T⟩ : ∃ BX BY, LDo w (.slice od L.length cd) k s h w1.heap.size (.slice oa (ofV LL).length ca) w2.heap.size (.slice ob (ofV LL).length cb) (ofV LL) BX (.slice oox (nthW L k s h i).length cx) BY (.slice ooy (nthW L k s h i).length cy) (nthW L k s h i) w6 := ⟨_, _, BL.out, Kd.out, Ka.out, Kb.out, Ra.out, Rb.out, Ox.out, Oy.out⟩
  clear BL Kd Ka Kb Ra Rb Ox Oy
  refine wp_region_held_drew (S := (fun w' => LDo w (.slice od L.length cd) k s h w1.heap.size (.slice oa (ofV LL).length ca) w2.heap.size (.slice ob (ofV LL).length cb) (ofV LL) BX (.slice oox (nthW L k s h i).length cx) BY (.slice ooy (nthW L k s h i).length cy) (nthW L k s h i) w')) (by kernel_rfl) (T.keep (to_drew (Below.refl _ _))) (fun hHeld => ?_)
  clear T
  obtain ⟨v0, hv0⟩ : ∃ v0, v0 = w6.drew := ⟨_, rfl⟩
  rw [← hv0] at hHeld ⊢
  clear hv0
  refine wpAnyH_take (i := 0) (oi := { dst := some 55, op := Op.load 62 (Operand.tmp 9), type := 62, pos := "law.go:33", after := #[], guard := none }) (v := ?_) rfl (by kernel_rfl) (by kernel_rfl) (by kernel_rfl) (fun _ _ _ h => h) (Or.inl ⟨by rfl, ?_⟩) (by assumption) ?_
  rotate_left
  · (intro wq hSw; (try dsimp only at hSw); have zd0 := hSw.d.c0; have zd1 := hSw.d.c1; have zd2 := hSw.d.c2; have zd3 := hSw.d.c3; have za0 := hSw.a.c0; have za1 := hSw.a.c1; have za2 := hSw.a.c2; have za3 := hSw.a.c3; have zb0 := hSw.b.c0; have zb1 := hSw.b.c1; have zb2 := hSw.b.c2; have zb3 := hSw.b.c3; clear hSw; go_simp; first | done | with_reducible rfl)
  try simp only [Act.put, List.setIfInBounds_toArray, List.set_cons_zero, List.set_cons_succ]
  refine wpAnyH_take (i := 1) (oi := { dst := some 56, op := Op.load 62 (Operand.tmp 11), type := 62, pos := "law.go:33", after := #[], guard := none }) (v := ?_) rfl (by kernel_rfl) (by kernel_rfl) (by kernel_rfl) (fun _ _ _ h => h) (Or.inl ⟨by rfl, ?_⟩) (by assumption) ?_
  rotate_left
  · (intro wq hSw; (try dsimp only at hSw); have zd0 := hSw.d.c0; have zd1 := hSw.d.c1; have zd2 := hSw.d.c2; have zd3 := hSw.d.c3; have za0 := hSw.a.c0; have za1 := hSw.a.c1; have za2 := hSw.a.c2; have za3 := hSw.a.c3; have zb0 := hSw.b.c0; have zb1 := hSw.b.c1; have zb2 := hSw.b.c2; have zb3 := hSw.b.c3; clear hSw; go_simp; first | done | with_reducible rfl)
  try simp only [Act.put, List.setIfInBounds_toArray, List.set_cons_zero, List.set_cons_succ]
  refine wpAnyH_ready (rs := [2]) (by kernel_rfl) (by simp) ?_
  refine AllReadyH.cons (o := { dst := some 57, op := Op.call { callee := Callee.value (Operand.func 66), args := #[Operand.tmp 55, Operand.tmp 56], argTypes := #[62, 62] }, type := 4, pos := "law.go:33", after := #[{ on := 0, ground := Ground.data }, { on := 1, ground := Ground.data }], guard := none }) rfl (fun K hK => ?_) AllReadyH.nil
  go_simp
  refine (Dequal_same _ _ (ofV LL) 0 0 0 _ hHeld.ra hHeld.rb (by have := ofV_len (L := LL); omega)).mono ?_
  rintro e v1 ⟨rfl, hq⟩
  have hq : Below v0.heap.size v0 v1 := ⟨hq.os, hq.tape, hq.output, hq.size, hq.block⟩
  have hS := hHeld.keep hq
  go_wp2_with fail
  refine hK.out _ _ hS (fun hHeld => ?_)
  clear hK K hHeld
  clear hq
  have hHeld := hS
  clear hS
  try simp only [Act.put, List.setIfInBounds_toArray, List.set_cons_zero, List.set_cons_succ]
  refine wpAnyH_take (i := 3) (oi := { dst := some 58, op := Op.move (Operand.tmp 57), type := 4, pos := "law.go:33", after := #[{ on := 2, ground := Ground.data }, { on := 2, ground := Ground.chain }], guard := none }) (v := ?_) rfl (by kernel_rfl) (by kernel_rfl) (by kernel_rfl) (fun _ _ _ h => h) (Or.inl ⟨by rfl, ?_⟩) (by assumption) ?_
  rotate_left
  · (intro wq hSw; (try dsimp only at hSw); have zd0 := hSw.d.c0; have zd1 := hSw.d.c1; have zd2 := hSw.d.c2; have zd3 := hSw.d.c3; have za0 := hSw.a.c0; have za1 := hSw.a.c1; have za2 := hSw.a.c2; have za3 := hSw.a.c3; have zb0 := hSw.b.c0; have zb1 := hSw.b.c1; have zb2 := hSw.b.c2; have zb3 := hSw.b.c3; clear hSw; go_simp; first | done | with_reducible rfl)
  try simp only [Act.put, List.setIfInBounds_toArray, List.set_cons_zero, List.set_cons_succ]
  refine wpAnyH_take (i := 4) (oi := { dst := some 59, op := Op.move (Operand.tmp 10), type := 24, pos := "law.go:33", after := #[{ on := 3, ground := Ground.guard }], guard := some (3, true) }) (v := ?_) rfl (by kernel_rfl) (by kernel_rfl) (by kernel_rfl) (fun _ _ _ h => h) (Or.inl ⟨by rfl, ?_⟩) (by assumption) ?_
  rotate_left
  · (intro wq hSw; (try dsimp only at hSw); have zd0 := hSw.d.c0; have zd1 := hSw.d.c1; have zd2 := hSw.d.c2; have zd3 := hSw.d.c3; have za0 := hSw.a.c0; have za1 := hSw.a.c1; have za2 := hSw.a.c2; have za3 := hSw.a.c3; have zb0 := hSw.b.c0; have zb1 := hSw.b.c1; have zb2 := hSw.b.c2; have zb3 := hSw.b.c3; clear hSw; go_simp; first | done | with_reducible rfl)
  try simp only [Act.put, List.setIfInBounds_toArray, List.set_cons_zero, List.set_cons_succ]
  refine wpAnyH_take (i := 5) (oi := { dst := some 60, op := Op.move (Operand.tmp 12), type := 24, pos := "law.go:33", after := #[{ on := 3, ground := Ground.guard }], guard := some (3, true) }) (v := ?_) rfl (by kernel_rfl) (by kernel_rfl) (by kernel_rfl) (fun _ _ _ h => h) (Or.inl ⟨by rfl, ?_⟩) (by assumption) ?_
  rotate_left
  · (intro wq hSw; (try dsimp only at hSw); have zd0 := hSw.d.c0; have zd1 := hSw.d.c1; have zd2 := hSw.d.c2; have zd3 := hSw.d.c3; have za0 := hSw.a.c0; have za1 := hSw.a.c1; have za2 := hSw.a.c2; have za3 := hSw.a.c3; have zb0 := hSw.b.c0; have zb1 := hSw.b.c1; have zb2 := hSw.b.c2; have zb3 := hSw.b.c3; clear hSw; go_simp; first | done | with_reducible rfl)
  try simp only [Act.put, List.setIfInBounds_toArray, List.set_cons_zero, List.set_cons_succ]
  refine wpAnyH_take (i := 6) (oi := { dst := some 61, op := Op.binOp BinOp.eql 24 (Operand.tmp 59) (Operand.tmp 60) 24, type := 4, pos := "law.go:33", after := #[{ on := 4, ground := Ground.data }, { on := 5, ground := Ground.data }, { on := 3, ground := Ground.guard }], guard := some (3, true) }) (v := ?_) rfl (by kernel_rfl) (by kernel_rfl) (by kernel_rfl) (fun _ _ _ h => h) (Or.inl ⟨by rfl, ?_⟩) (by assumption) ?_
  rotate_left
  · (intro wq hSw; (try dsimp only at hSw); have zd0 := hSw.d.c0; have zd1 := hSw.d.c1; have zd2 := hSw.d.c2; have zd3 := hSw.d.c3; have za0 := hSw.a.c0; have za1 := hSw.a.c1; have za2 := hSw.a.c2; have za3 := hSw.a.c3; have zb0 := hSw.b.c0; have zb1 := hSw.b.c1; have zb2 := hSw.b.c2; have zb3 := hSw.b.c3; clear hSw; go_simp; first | done | with_reducible rfl)
  try simp only [Act.put, List.setIfInBounds_toArray, List.set_cons_zero, List.set_cons_succ]
  refine wpAnyH_take (i := 7) (oi := { dst := some 62, op := Op.pick (Operand.tmp 58) (Operand.tmp 61) (Operand.const (Value.bool false)), type := 4, pos := "law.go:33", after := #[{ on := 3, ground := Ground.data }, { on := 6, ground := Ground.data }], guard := none }) (v := ?_) rfl (by kernel_rfl) (by kernel_rfl) (by kernel_rfl) (fun _ _ _ h => h) (Or.inl ⟨by rfl, ?_⟩) (by assumption) ?_
  rotate_left
  · (intro wq hSw; (try dsimp only at hSw); have zd0 := hSw.d.c0; have zd1 := hSw.d.c1; have zd2 := hSw.d.c2; have zd3 := hSw.d.c3; have za0 := hSw.a.c0; have za1 := hSw.a.c1; have za2 := hSw.a.c2; have za3 := hSw.a.c3; have zb0 := hSw.b.c0; have zb1 := hSw.b.c1; have zb2 := hSw.b.c2; have zb3 := hSw.b.c3; clear hSw; go_simp; first | done | with_reducible rfl)
  try simp only [Act.put, List.setIfInBounds_toArray, List.set_cons_zero, List.set_cons_succ]
  refine wpAnyH_take (i := 8) (oi := { dst := some 63, op := Op.move (Operand.tmp 62), type := 4, pos := "law.go:33", after := #[{ on := 7, ground := Ground.data }, { on := 3, ground := Ground.chain }], guard := none }) (v := ?_) rfl (by kernel_rfl) (by kernel_rfl) (by kernel_rfl) (fun _ _ _ h => h) (Or.inl ⟨by rfl, ?_⟩) (by assumption) ?_
  rotate_left
  · (intro wq hSw; (try dsimp only at hSw); have zd0 := hSw.d.c0; have zd1 := hSw.d.c1; have zd2 := hSw.d.c2; have zd3 := hSw.d.c3; have za0 := hSw.a.c0; have za1 := hSw.a.c1; have za2 := hSw.a.c2; have za3 := hSw.a.c3; have zb0 := hSw.b.c0; have zb1 := hSw.b.c1; have zb2 := hSw.b.c2; have zb3 := hSw.b.c3; clear hSw; go_simp; first | done | with_reducible rfl)
  try simp only [Act.put, List.setIfInBounds_toArray, List.set_cons_zero, List.set_cons_succ]
  refine wpAnyH_take (i := 9) (oi := { dst := some 64, op := Op.load 62 (Operand.tmp 5), type := 62, pos := "law.go:33", after := #[{ on := 8, ground := Ground.guard }], guard := some (8, true) }) (v := ?_) rfl (by kernel_rfl) (by kernel_rfl) (by kernel_rfl) (fun _ _ _ h => h) (Or.inl ⟨by rfl, ?_⟩) (by assumption) ?_
  rotate_left
  · (intro wq hSw; (try dsimp only at hSw); have zd0 := hSw.d.c0; have zd1 := hSw.d.c1; have zd2 := hSw.d.c2; have zd3 := hSw.d.c3; have za0 := hSw.a.c0; have za1 := hSw.a.c1; have za2 := hSw.a.c2; have za3 := hSw.a.c3; have zb0 := hSw.b.c0; have zb1 := hSw.b.c1; have zb2 := hSw.b.c2; have zb3 := hSw.b.c3; clear hSw; go_simp; first | done | with_reducible rfl)
  try simp only [Act.put, List.setIfInBounds_toArray, List.set_cons_zero, List.set_cons_succ]
  refine wpAnyH_take (i := 11) (oi := { dst := some 66, op := Op.load 62 (Operand.tmp 5), type := 62, pos := "law.go:33", after := #[{ on := 8, ground := Ground.guard }], guard := some (8, true) }) (v := ?_) rfl (by kernel_rfl) (by kernel_rfl) (by kernel_rfl) (fun _ _ _ h => h) (Or.inl ⟨by rfl, ?_⟩) (by assumption) ?_
  rotate_left
  · (intro wq hSw; (try dsimp only at hSw); have zd0 := hSw.d.c0; have zd1 := hSw.d.c1; have zd2 := hSw.d.c2; have zd3 := hSw.d.c3; have za0 := hSw.a.c0; have za1 := hSw.a.c1; have za2 := hSw.a.c2; have za3 := hSw.a.c3; have zb0 := hSw.b.c0; have zb1 := hSw.b.c1; have zb2 := hSw.b.c2; have zb3 := hSw.b.c3; clear hSw; go_simp; first | done | with_reducible rfl)
  try simp only [Act.put, List.setIfInBounds_toArray, List.set_cons_zero, List.set_cons_succ]
  refine wpAnyH_ready (rs := [10]) (by kernel_rfl) (by simp) ?_
  refine AllReadyH.cons (o := { dst := some 65, op := Op.call { callee := Callee.value (Operand.func 67), args := #[Operand.tmp 64], argTypes := #[62] }, type := 24, pos := "law.go:33", after := #[{ on := 9, ground := Ground.data }, { on := 8, ground := Ground.chain }, { on := 8, ground := Ground.guard }], guard := some (8, true) }) rfl (fun K hK => ?_) AllReadyH.nil
  go_simp
  refine (Dcheck_any _ L k s h _ (HR.out.keep hHeld.below) HL.out).mono ?_
  rintro e v2 ⟨rfl, hq⟩
  have hq : Below v1.heap.size v1 v2 := ⟨hq.os, hq.tape, hq.output, hq.size, hq.block⟩
  have hS := hHeld.keep hq
  go_wp2_with fail
  refine hK.out _ _ hS (fun hHeld => ?_)
  clear hK K hHeld
  clear hq
  have hHeld := hS
  clear hS
  try simp only [Act.put, List.setIfInBounds_toArray, List.set_cons_zero, List.set_cons_succ]
  refine wpAnyH_ready (rs := [12]) (by kernel_rfl) (by simp) ?_
  refine AllReadyH.cons (o := { dst := some 67, op := Op.call { callee := Callee.value (Operand.func 68), args := #[Operand.tmp 66], argTypes := #[62] }, type := 24, pos := "law.go:33", after := #[{ on := 11, ground := Ground.data }, { on := 10, ground := Ground.chain }, { on := 8, ground := Ground.guard }], guard := some (8, true) }) rfl (fun K hK => ?_) AllReadyH.nil
  go_simp
  refine (rDcheck_any _ L k s h _ (HR.out.keep hHeld.below) HL.out).mono ?_
  rintro e v3 ⟨rfl, hq⟩
  have hq : Below v2.heap.size v2 v3 := ⟨hq.os, hq.tape, hq.output, hq.size, hq.block⟩
  have hS := hHeld.keep hq
  go_wp2_with fail
  refine hK.out _ _ hS (fun hHeld => ?_)
  clear hK K hHeld
  clear hq
  have hHeld := hS
  clear hS
  try simp only [Act.put, List.setIfInBounds_toArray, List.set_cons_zero, List.set_cons_succ]
  refine wpAnyH_take (i := 13) (oi := { dst := some 68, op := Op.binOp BinOp.eql 24 (Operand.tmp 65) (Operand.tmp 67) 24, type := 4, pos := "law.go:33", after := #[{ on := 10, ground := Ground.data }, { on := 12, ground := Ground.data }, { on := 8, ground := Ground.guard }], guard := some (8, true) }) (v := ?_) rfl (by kernel_rfl) (by kernel_rfl) (by kernel_rfl) (fun _ _ _ h => h) (Or.inl ⟨by rfl, ?_⟩) (by assumption) ?_
  rotate_left
  · (intro wq hSw; (try dsimp only at hSw); have zd0 := hSw.d.c0; have zd1 := hSw.d.c1; have zd2 := hSw.d.c2; have zd3 := hSw.d.c3; have za0 := hSw.a.c0; have za1 := hSw.a.c1; have za2 := hSw.a.c2; have za3 := hSw.a.c3; have zb0 := hSw.b.c0; have zb1 := hSw.b.c1; have zb2 := hSw.b.c2; have zb3 := hSw.b.c3; clear hSw; go_simp; first | done | with_reducible rfl)
  try simp only [Act.put, List.setIfInBounds_toArray, List.set_cons_zero, List.set_cons_succ]
  refine wpAnyH_take (i := 14) (oi := { dst := some 69, op := Op.pick (Operand.tmp 63) (Operand.tmp 68) (Operand.const (Value.bool false)), type := 4, pos := "law.go:33", after := #[{ on := 8, ground := Ground.data }, { on := 13, ground := Ground.data }], guard := none }) (v := ?_) rfl (by kernel_rfl) (by kernel_rfl) (by kernel_rfl) (fun _ _ _ h => h) (Or.inl ⟨by rfl, ?_⟩) (by assumption) ?_
  rotate_left
  · (intro wq hSw; (try dsimp only at hSw); have zd0 := hSw.d.c0; have zd1 := hSw.d.c1; have zd2 := hSw.d.c2; have zd3 := hSw.d.c3; have za0 := hSw.a.c0; have za1 := hSw.a.c1; have za2 := hSw.a.c2; have za3 := hSw.a.c3; have zb0 := hSw.b.c0; have zb1 := hSw.b.c1; have zb2 := hSw.b.c2; have zb3 := hSw.b.c3; clear hSw; go_simp; first | done | with_reducible rfl)
  try simp only [Act.put, List.setIfInBounds_toArray, List.set_cons_zero, List.set_cons_succ]
  refine wpAnyH_take (i := 15) (oi := { dst := some 70, op := Op.move (Operand.tmp 69), type := 4, pos := "law.go:33", after := #[{ on := 14, ground := Ground.data }, { on := 12, ground := Ground.chain }], guard := none }) (v := ?_) rfl (by kernel_rfl) (by kernel_rfl) (by kernel_rfl) (fun _ _ _ h => h) (Or.inl ⟨by rfl, ?_⟩) (by assumption) ?_
  rotate_left
  · (intro wq hSw; (try dsimp only at hSw); have zd0 := hSw.d.c0; have zd1 := hSw.d.c1; have zd2 := hSw.d.c2; have zd3 := hSw.d.c3; have za0 := hSw.a.c0; have za1 := hSw.a.c1; have za2 := hSw.a.c2; have za3 := hSw.a.c3; have zb0 := hSw.b.c0; have zb1 := hSw.b.c1; have zb2 := hSw.b.c2; have zb3 := hSw.b.c3; clear hSw; go_simp; first | done | with_reducible rfl)
  try simp only [Act.put, List.setIfInBounds_toArray, List.set_cons_zero, List.set_cons_succ]
  refine wpAnyH_take (i := 16) (oi := { dst := some 71, op := Op.load 62 (Operand.tmp 5), type := 62, pos := "law.go:33", after := #[{ on := 15, ground := Ground.guard }], guard := some (15, true) }) (v := ?_) rfl (by kernel_rfl) (by kernel_rfl) (by kernel_rfl) (fun _ _ _ h => h) (Or.inl ⟨by rfl, ?_⟩) (by assumption) ?_
  rotate_left
  · (intro wq hSw; (try dsimp only at hSw); have zd0 := hSw.d.c0; have zd1 := hSw.d.c1; have zd2 := hSw.d.c2; have zd3 := hSw.d.c3; have za0 := hSw.a.c0; have za1 := hSw.a.c1; have za2 := hSw.a.c2; have za3 := hSw.a.c3; have zb0 := hSw.b.c0; have zb1 := hSw.b.c1; have zb2 := hSw.b.c2; have zb3 := hSw.b.c3; clear hSw; go_simp; first | done | with_reducible rfl)
  try simp only [Act.put, List.setIfInBounds_toArray, List.set_cons_zero, List.set_cons_succ]
  refine wpAnyH_take (i := 18) (oi := { dst := some 73, op := Op.load 62 (Operand.tmp 5), type := 62, pos := "law.go:33", after := #[{ on := 15, ground := Ground.guard }], guard := some (15, true) }) (v := ?_) rfl (by kernel_rfl) (by kernel_rfl) (by kernel_rfl) (fun _ _ _ h => h) (Or.inl ⟨by rfl, ?_⟩) (by assumption) ?_
  rotate_left
  · (intro wq hSw; (try dsimp only at hSw); have zd0 := hSw.d.c0; have zd1 := hSw.d.c1; have zd2 := hSw.d.c2; have zd3 := hSw.d.c3; have za0 := hSw.a.c0; have za1 := hSw.a.c1; have za2 := hSw.a.c2; have za3 := hSw.a.c3; have zb0 := hSw.b.c0; have zb1 := hSw.b.c1; have zb2 := hSw.b.c2; have zb3 := hSw.b.c3; clear hSw; go_simp; first | done | with_reducible rfl)
  try simp only [Act.put, List.setIfInBounds_toArray, List.set_cons_zero, List.set_cons_succ]
  refine wpAnyH_ready (rs := [17]) (by kernel_rfl) (by simp) ?_
  refine AllReadyH.cons (o := { dst := some 72, op := Op.call { callee := Callee.value (Operand.func 69), args := #[Operand.tmp 71], argTypes := #[62] }, type := 3, pos := "law.go:33", after := #[{ on := 16, ground := Ground.data }, { on := 15, ground := Ground.chain }, { on := 15, ground := Ground.guard }], guard := some (15, true) }) rfl (fun K hK => ?_) AllReadyH.nil
  go_simp
  refine (Dsize_any _ L k s h _ (HR.out.keep hHeld.below) HL.out).mono ?_
  rintro e v4 ⟨rfl, hq⟩
  have hq : Below v3.heap.size v3 v4 := ⟨hq.os, hq.tape, hq.output, hq.size, hq.block⟩
  have hS := hHeld.keep hq
  go_wp2_with fail
  refine hK.out _ _ hS (fun hHeld => ?_)
  clear hK K hHeld
  clear hq
  have hHeld := hS
  clear hS
  try simp only [Act.put, List.setIfInBounds_toArray, List.set_cons_zero, List.set_cons_succ]
  refine wpAnyH_ready (rs := [19]) (by kernel_rfl) (by simp) ?_
  refine AllReadyH.cons (o := { dst := some 74, op := Op.call { callee := Callee.value (Operand.func 70), args := #[Operand.tmp 73], argTypes := #[62] }, type := 3, pos := "law.go:33", after := #[{ on := 18, ground := Ground.data }, { on := 17, ground := Ground.chain }, { on := 15, ground := Ground.guard }], guard := some (15, true) }) rfl (fun K hK => ?_) AllReadyH.nil
  go_simp
  refine (rDsize_any _ L k s h _ (HR.out.keep hHeld.below) HL.out).mono ?_
  rintro e v5 ⟨rfl, hq⟩
  have hq : Below v4.heap.size v4 v5 := ⟨hq.os, hq.tape, hq.output, hq.size, hq.block⟩
  have hS := hHeld.keep hq
  go_wp2_with fail
  refine hK.out _ _ hS (fun hHeld => ?_)
  clear hK K hHeld
  clear hq
  have hHeld := hS
  clear hS
  try simp only [Act.put, List.setIfInBounds_toArray, List.set_cons_zero, List.set_cons_succ]
  refine wpAnyH_take (i := 20) (oi := { dst := some 75, op := Op.binOp BinOp.eql 3 (Operand.tmp 72) (Operand.tmp 74) 3, type := 4, pos := "law.go:33", after := #[{ on := 17, ground := Ground.data }, { on := 19, ground := Ground.data }, { on := 15, ground := Ground.guard }], guard := some (15, true) }) (v := ?_) rfl (by kernel_rfl) (by kernel_rfl) (by kernel_rfl) (fun _ _ _ h => h) (Or.inl ⟨by rfl, ?_⟩) (by assumption) ?_
  rotate_left
  · (intro wq hSw; (try dsimp only at hSw); have zd0 := hSw.d.c0; have zd1 := hSw.d.c1; have zd2 := hSw.d.c2; have zd3 := hSw.d.c3; have za0 := hSw.a.c0; have za1 := hSw.a.c1; have za2 := hSw.a.c2; have za3 := hSw.a.c3; have zb0 := hSw.b.c0; have zb1 := hSw.b.c1; have zb2 := hSw.b.c2; have zb3 := hSw.b.c3; clear hSw; go_simp; first | done | with_reducible rfl)
  try simp only [Act.put, List.setIfInBounds_toArray, List.set_cons_zero, List.set_cons_succ]
  refine wpAnyH_take (i := 21) (oi := { dst := some 76, op := Op.pick (Operand.tmp 70) (Operand.tmp 75) (Operand.const (Value.bool false)), type := 4, pos := "law.go:33", after := #[{ on := 15, ground := Ground.data }, { on := 20, ground := Ground.data }], guard := none }) (v := ?_) rfl (by kernel_rfl) (by kernel_rfl) (by kernel_rfl) (fun _ _ _ h => h) (Or.inl ⟨by rfl, ?_⟩) (by assumption) ?_
  rotate_left
  · (intro wq hSw; (try dsimp only at hSw); have zd0 := hSw.d.c0; have zd1 := hSw.d.c1; have zd2 := hSw.d.c2; have zd3 := hSw.d.c3; have za0 := hSw.a.c0; have za1 := hSw.a.c1; have za2 := hSw.a.c2; have za3 := hSw.a.c3; have zb0 := hSw.b.c0; have zb1 := hSw.b.c1; have zb2 := hSw.b.c2; have zb3 := hSw.b.c3; clear hSw; go_simp; first | done | with_reducible rfl)
  try simp only [Act.put, List.setIfInBounds_toArray, List.set_cons_zero, List.set_cons_succ]
  refine wpAnyH_take (i := 22) (oi := { dst := some 77, op := Op.move (Operand.tmp 76), type := 4, pos := "law.go:33", after := #[{ on := 21, ground := Ground.data }, { on := 19, ground := Ground.chain }], guard := none }) (v := ?_) rfl (by kernel_rfl) (by kernel_rfl) (by kernel_rfl) (fun _ _ _ h => h) (Or.inl ⟨by rfl, ?_⟩) (by assumption) ?_
  rotate_left
  · (intro wq hSw; (try dsimp only at hSw); have zd0 := hSw.d.c0; have zd1 := hSw.d.c1; have zd2 := hSw.d.c2; have zd3 := hSw.d.c3; have za0 := hSw.a.c0; have za1 := hSw.a.c1; have za2 := hSw.a.c2; have za3 := hSw.a.c3; have zb0 := hSw.b.c0; have zb1 := hSw.b.c1; have zb2 := hSw.b.c2; have zb3 := hSw.b.c3; clear hSw; go_simp; first | done | with_reducible rfl)
  try simp only [Act.put, List.setIfInBounds_toArray, List.set_cons_zero, List.set_cons_succ]
  refine wpAnyH_take (i := 23) (oi := { dst := some 78, op := Op.load 62 (Operand.tmp 5), type := 62, pos := "law.go:33", after := #[{ on := 22, ground := Ground.guard }], guard := some (22, true) }) (v := ?_) rfl (by kernel_rfl) (by kernel_rfl) (by kernel_rfl) (fun _ _ _ h => h) (Or.inl ⟨by rfl, ?_⟩) (by assumption) ?_
  rotate_left
  · (intro wq hSw; (try dsimp only at hSw); have zd0 := hSw.d.c0; have zd1 := hSw.d.c1; have zd2 := hSw.d.c2; have zd3 := hSw.d.c3; have za0 := hSw.a.c0; have za1 := hSw.a.c1; have za2 := hSw.a.c2; have za3 := hSw.a.c3; have zb0 := hSw.b.c0; have zb1 := hSw.b.c1; have zb2 := hSw.b.c2; have zb3 := hSw.b.c3; clear hSw; go_simp; first | done | with_reducible rfl)
  try simp only [Act.put, List.setIfInBounds_toArray, List.set_cons_zero, List.set_cons_succ]
  refine wpAnyH_take (i := 24) (oi := { dst := some 79, op := Op.move (Operand.tmp 2), type := 48, pos := "law.go:33", after := #[{ on := 22, ground := Ground.guard }], guard := some (22, true) }) (v := ?_) rfl (by kernel_rfl) (by kernel_rfl) (by kernel_rfl) (fun _ _ _ h => h) (Or.inl ⟨by rfl, ?_⟩) (by assumption) ?_
  rotate_left
  · (intro wq hSw; (try dsimp only at hSw); have zd0 := hSw.d.c0; have zd1 := hSw.d.c1; have zd2 := hSw.d.c2; have zd3 := hSw.d.c3; have za0 := hSw.a.c0; have za1 := hSw.a.c1; have za2 := hSw.a.c2; have za3 := hSw.a.c3; have zb0 := hSw.b.c0; have zb1 := hSw.b.c1; have zb2 := hSw.b.c2; have zb3 := hSw.b.c3; clear hSw; go_simp; first | done | with_reducible rfl)
  try simp only [Act.put, List.setIfInBounds_toArray, List.set_cons_zero, List.set_cons_succ]
  refine wpAnyH_take (i := 26) (oi := { dst := some 81, op := Op.load 62 (Operand.tmp 5), type := 62, pos := "law.go:33", after := #[{ on := 22, ground := Ground.guard }], guard := some (22, true) }) (v := ?_) rfl (by kernel_rfl) (by kernel_rfl) (by kernel_rfl) (fun _ _ _ h => h) (Or.inl ⟨by rfl, ?_⟩) (by assumption) ?_
  rotate_left
  · (intro wq hSw; (try dsimp only at hSw); have zd0 := hSw.d.c0; have zd1 := hSw.d.c1; have zd2 := hSw.d.c2; have zd3 := hSw.d.c3; have za0 := hSw.a.c0; have za1 := hSw.a.c1; have za2 := hSw.a.c2; have za3 := hSw.a.c3; have zb0 := hSw.b.c0; have zb1 := hSw.b.c1; have zb2 := hSw.b.c2; have zb3 := hSw.b.c3; clear hSw; go_simp; first | done | with_reducible rfl)
  try simp only [Act.put, List.setIfInBounds_toArray, List.set_cons_zero, List.set_cons_succ]
  refine wpAnyH_take (i := 27) (oi := { dst := some 82, op := Op.move (Operand.tmp 2), type := 48, pos := "law.go:33", after := #[{ on := 22, ground := Ground.guard }], guard := some (22, true) }) (v := ?_) rfl (by kernel_rfl) (by kernel_rfl) (by kernel_rfl) (fun _ _ _ h => h) (Or.inl ⟨by rfl, ?_⟩) (by assumption) ?_
  rotate_left
  · (intro wq hSw; (try dsimp only at hSw); have zd0 := hSw.d.c0; have zd1 := hSw.d.c1; have zd2 := hSw.d.c2; have zd3 := hSw.d.c3; have za0 := hSw.a.c0; have za1 := hSw.a.c1; have za2 := hSw.a.c2; have za3 := hSw.a.c3; have zb0 := hSw.b.c0; have zb1 := hSw.b.c1; have zb2 := hSw.b.c2; have zb3 := hSw.b.c3; clear hSw; go_simp; first | done | with_reducible rfl)
  try simp only [Act.put, List.setIfInBounds_toArray, List.set_cons_zero, List.set_cons_succ]
  refine wpAnyH_ready (rs := [25]) (by kernel_rfl) (by simp) ?_
  refine AllReadyH.cons (o := { dst := some 80, op := Op.call { callee := Callee.value (Operand.func 71), args := #[Operand.tmp 78, Operand.tmp 79], argTypes := #[62, 48] }, type := 4, pos := "law.go:33", after := #[{ on := 23, ground := Ground.data }, { on := 24, ground := Ground.data }, { on := 22, ground := Ground.chain }, { on := 22, ground := Ground.guard }], guard := some (22, true) }) rfl (fun K hK => ?_) AllReadyH.nil
  go_simp
  refine (Dhas_any _ L k s h _ ns _ (HR.out.keep hHeld.below) HL.out (HI.out.keep hHeld.below) HN.out).mono ?_
  rintro e v6 ⟨rfl, hq⟩
  have hq : Below v5.heap.size v5 v6 := ⟨hq.os, hq.tape, hq.output, hq.size, hq.block⟩
  have hS := hHeld.keep hq
  go_wp2_with fail
  refine hK.out _ _ hS (fun hHeld => ?_)
  clear hK K hHeld
  clear hq
  have hHeld := hS
  clear hS
  try simp only [Act.put, List.setIfInBounds_toArray, List.set_cons_zero, List.set_cons_succ]
  refine wpAnyH_ready (rs := [28]) (by kernel_rfl) (by simp) ?_
  refine AllReadyH.cons (o := { dst := some 83, op := Op.call { callee := Callee.value (Operand.func 72), args := #[Operand.tmp 81, Operand.tmp 82], argTypes := #[62, 48] }, type := 4, pos := "law.go:33", after := #[{ on := 26, ground := Ground.data }, { on := 27, ground := Ground.data }, { on := 25, ground := Ground.chain }, { on := 22, ground := Ground.guard }], guard := some (22, true) }) rfl (fun K hK => ?_) AllReadyH.nil
  go_simp
  refine (rHas_any _ L k s h _ ns _ (HR.out.keep hHeld.below) HL.out (HI.out.keep hHeld.below) HN.out).mono ?_
  rintro e v7 ⟨rfl, hq⟩
  have hq : Below v6.heap.size v6 v7 := ⟨hq.os, hq.tape, hq.output, hq.size, hq.block⟩
  have hS := hHeld.keep hq
  go_wp2_with fail
  refine hK.out _ _ hS (fun hHeld => ?_)
  clear hK K hHeld
  clear hq
  have hHeld := hS
  clear hS
  try simp only [Act.put, List.setIfInBounds_toArray, List.set_cons_zero, List.set_cons_succ]
  refine wpAnyH_take (i := 29) (oi := { dst := some 84, op := Op.binOp BinOp.eql 4 (Operand.tmp 80) (Operand.tmp 83) 4, type := 4, pos := "law.go:33", after := #[{ on := 25, ground := Ground.data }, { on := 28, ground := Ground.data }, { on := 22, ground := Ground.guard }], guard := some (22, true) }) (v := ?_) rfl (by kernel_rfl) (by kernel_rfl) (by kernel_rfl) (fun _ _ _ h => h) (Or.inl ⟨by rfl, ?_⟩) (by assumption) ?_
  rotate_left
  · (intro wq hSw; (try dsimp only at hSw); have zd0 := hSw.d.c0; have zd1 := hSw.d.c1; have zd2 := hSw.d.c2; have zd3 := hSw.d.c3; have za0 := hSw.a.c0; have za1 := hSw.a.c1; have za2 := hSw.a.c2; have za3 := hSw.a.c3; have zb0 := hSw.b.c0; have zb1 := hSw.b.c1; have zb2 := hSw.b.c2; have zb3 := hSw.b.c3; clear hSw; go_simp; first | done | with_reducible rfl)
  try simp only [Act.put, List.setIfInBounds_toArray, List.set_cons_zero, List.set_cons_succ]
  refine wpAnyH_take (i := 30) (oi := { dst := some 85, op := Op.pick (Operand.tmp 77) (Operand.tmp 84) (Operand.const (Value.bool false)), type := 4, pos := "law.go:33", after := #[{ on := 22, ground := Ground.data }, { on := 29, ground := Ground.data }], guard := none }) (v := ?_) rfl (by kernel_rfl) (by kernel_rfl) (by kernel_rfl) (fun _ _ _ h => h) (Or.inl ⟨by rfl, ?_⟩) (by assumption) ?_
  rotate_left
  · (intro wq hSw; (try dsimp only at hSw); have zd0 := hSw.d.c0; have zd1 := hSw.d.c1; have zd2 := hSw.d.c2; have zd3 := hSw.d.c3; have za0 := hSw.a.c0; have za1 := hSw.a.c1; have za2 := hSw.a.c2; have za3 := hSw.a.c3; have zb0 := hSw.b.c0; have zb1 := hSw.b.c1; have zb2 := hSw.b.c2; have zb3 := hSw.b.c3; clear hSw; go_simp; first | done | with_reducible rfl)
  try simp only [Act.put, List.setIfInBounds_toArray, List.set_cons_zero, List.set_cons_succ]
  refine wpAnyH_take (i := 31) (oi := { dst := some 86, op := Op.move (Operand.tmp 85), type := 4, pos := "law.go:33", after := #[{ on := 30, ground := Ground.data }, { on := 28, ground := Ground.chain }], guard := none }) (v := ?_) rfl (by kernel_rfl) (by kernel_rfl) (by kernel_rfl) (fun _ _ _ h => h) (Or.inl ⟨by rfl, ?_⟩) (by assumption) ?_
  rotate_left
  · (intro wq hSw; (try dsimp only at hSw); have zd0 := hSw.d.c0; have zd1 := hSw.d.c1; have zd2 := hSw.d.c2; have zd3 := hSw.d.c3; have za0 := hSw.a.c0; have za1 := hSw.a.c1; have za2 := hSw.a.c2; have za3 := hSw.a.c3; have zb0 := hSw.b.c0; have zb1 := hSw.b.c1; have zb2 := hSw.b.c2; have zb3 := hSw.b.c3; clear hSw; go_simp; first | done | with_reducible rfl)
  try simp only [Act.put, List.setIfInBounds_toArray, List.set_cons_zero, List.set_cons_succ]
  refine wpAnyH_take (i := 32) (oi := { dst := some 87, op := Op.move (Operand.tmp 13), type := 48, pos := "law.go:33", after := #[{ on := 31, ground := Ground.guard }], guard := some (31, true) }) (v := ?_) rfl (by kernel_rfl) (by kernel_rfl) (by kernel_rfl) (fun _ _ _ h => h) (Or.inl ⟨by rfl, ?_⟩) (by assumption) ?_
  rotate_left
  · (intro wq hSw; (try dsimp only at hSw); have zd0 := hSw.d.c0; have zd1 := hSw.d.c1; have zd2 := hSw.d.c2; have zd3 := hSw.d.c3; have za0 := hSw.a.c0; have za1 := hSw.a.c1; have za2 := hSw.a.c2; have za3 := hSw.a.c3; have zb0 := hSw.b.c0; have zb1 := hSw.b.c1; have zb2 := hSw.b.c2; have zb3 := hSw.b.c3; clear hSw; go_simp; first | done | with_reducible rfl)
  try simp only [Act.put, List.setIfInBounds_toArray, List.set_cons_zero, List.set_cons_succ]
  refine wpAnyH_take (i := 33) (oi := { dst := some 88, op := Op.move (Operand.tmp 15), type := 48, pos := "law.go:33", after := #[{ on := 31, ground := Ground.guard }], guard := some (31, true) }) (v := ?_) rfl (by kernel_rfl) (by kernel_rfl) (by kernel_rfl) (fun _ _ _ h => h) (Or.inl ⟨by rfl, ?_⟩) (by assumption) ?_
  rotate_left
  · (intro wq hSw; (try dsimp only at hSw); have zd0 := hSw.d.c0; have zd1 := hSw.d.c1; have zd2 := hSw.d.c2; have zd3 := hSw.d.c3; have za0 := hSw.a.c0; have za1 := hSw.a.c1; have za2 := hSw.a.c2; have za3 := hSw.a.c3; have zb0 := hSw.b.c0; have zb1 := hSw.b.c1; have zb2 := hSw.b.c2; have zb3 := hSw.b.c3; clear hSw; go_simp; first | done | with_reducible rfl)
  try simp only [Act.put, List.setIfInBounds_toArray, List.set_cons_zero, List.set_cons_succ]
  refine wpAnyH_ready (rs := [34]) (by kernel_rfl) (by simp) ?_
  refine AllReadyH.cons (o := { dst := some 89, op := Op.call { callee := Callee.value (Operand.func 55), args := #[Operand.tmp 87, Operand.tmp 88], argTypes := #[48, 48] }, type := 4, pos := "law.go:33", after := #[{ on := 32, ground := Ground.data }, { on := 33, ground := Ground.data }, { on := 31, ground := Ground.chain }, { on := 31, ground := Ground.guard }], guard := some (31, true) }) rfl (fun K hK => ?_) AllReadyH.nil
  go_simp
  refine (equalI_any _ _ BX BY (nthW L k s h i) _ hHeld.ox hHeld.oy (by have := nthW_len (L := L) (k := k) (s := s) (h := h) (i := i); omega)).mono ?_
  rintro e v8 ⟨rfl, hq⟩
  have hq : Below v7.heap.size v7 v8 := ⟨hq.os, hq.tape, hq.output, hq.size, hq.block⟩
  have hS := hHeld.keep hq
  go_wp2_with fail
  refine hK.out _ _ hS (fun hHeld => ?_)
  clear hK K hHeld
  clear hq
  have hHeld := hS
  clear hS
  try simp only [Act.put, List.setIfInBounds_toArray, List.set_cons_zero, List.set_cons_succ]
  refine wpAnyH_take (i := 35) (oi := { dst := some 90, op := Op.pick (Operand.tmp 86) (Operand.tmp 89) (Operand.const (Value.bool false)), type := 4, pos := "law.go:33", after := #[{ on := 31, ground := Ground.data }, { on := 34, ground := Ground.data }], guard := none }) (v := ?_) rfl (by kernel_rfl) (by kernel_rfl) (by kernel_rfl) (fun _ _ _ h => h) (Or.inl ⟨by rfl, ?_⟩) (by assumption) ?_
  rotate_left
  · (intro wq hSw; (try dsimp only at hSw); have zd0 := hSw.d.c0; have zd1 := hSw.d.c1; have zd2 := hSw.d.c2; have zd3 := hSw.d.c3; have za0 := hSw.a.c0; have za1 := hSw.a.c1; have za2 := hSw.a.c2; have za3 := hSw.a.c3; have zb0 := hSw.b.c0; have zb1 := hSw.b.c1; have zb2 := hSw.b.c2; have zb3 := hSw.b.c3; clear hSw; go_simp; first | done | with_reducible rfl)
  try simp only [Act.put, List.setIfInBounds_toArray, List.set_cons_zero, List.set_cons_succ]
  refine wpAnyH_take (i := 36) (oi := { dst := some 91, op := Op.move (Operand.tmp 90), type := 4, pos := "law.go:33", after := #[{ on := 35, ground := Ground.data }, { on := 34, ground := Ground.chain }], guard := none }) (v := ?_) rfl (by kernel_rfl) (by kernel_rfl) (by kernel_rfl) (fun _ _ _ h => h) (Or.inl ⟨by rfl, ?_⟩) (by assumption) ?_
  rotate_left
  · (intro wq hSw; (try dsimp only at hSw); have zd0 := hSw.d.c0; have zd1 := hSw.d.c1; have zd2 := hSw.d.c2; have zd3 := hSw.d.c3; have za0 := hSw.a.c0; have za1 := hSw.a.c1; have za2 := hSw.a.c2; have za3 := hSw.a.c3; have zb0 := hSw.b.c0; have zb1 := hSw.b.c1; have zb2 := hSw.b.c2; have zb3 := hSw.b.c3; clear hSw; go_simp; first | done | with_reducible rfl)
  try simp only [Act.put, List.setIfInBounds_toArray, List.set_cons_zero, List.set_cons_succ]
  refine wpAnyH_take (i := 37) (oi := { dst := some 92, op := Op.move (Operand.tmp 14), type := 24, pos := "law.go:33", after := #[{ on := 36, ground := Ground.guard }], guard := some (36, true) }) (v := ?_) rfl (by kernel_rfl) (by kernel_rfl) (by kernel_rfl) (fun _ _ _ h => h) (Or.inl ⟨by rfl, ?_⟩) (by assumption) ?_
  rotate_left
  · (intro wq hSw; (try dsimp only at hSw); have zd0 := hSw.d.c0; have zd1 := hSw.d.c1; have zd2 := hSw.d.c2; have zd3 := hSw.d.c3; have za0 := hSw.a.c0; have za1 := hSw.a.c1; have za2 := hSw.a.c2; have za3 := hSw.a.c3; have zb0 := hSw.b.c0; have zb1 := hSw.b.c1; have zb2 := hSw.b.c2; have zb3 := hSw.b.c3; clear hSw; go_simp; first | done | with_reducible rfl)
  try simp only [Act.put, List.setIfInBounds_toArray, List.set_cons_zero, List.set_cons_succ]
  refine wpAnyH_take (i := 38) (oi := { dst := some 93, op := Op.move (Operand.tmp 16), type := 24, pos := "law.go:33", after := #[{ on := 36, ground := Ground.guard }], guard := some (36, true) }) (v := ?_) rfl (by kernel_rfl) (by kernel_rfl) (by kernel_rfl) (fun _ _ _ h => h) (Or.inl ⟨by rfl, ?_⟩) (by assumption) ?_
  rotate_left
  · (intro wq hSw; (try dsimp only at hSw); have zd0 := hSw.d.c0; have zd1 := hSw.d.c1; have zd2 := hSw.d.c2; have zd3 := hSw.d.c3; have za0 := hSw.a.c0; have za1 := hSw.a.c1; have za2 := hSw.a.c2; have za3 := hSw.a.c3; have zb0 := hSw.b.c0; have zb1 := hSw.b.c1; have zb2 := hSw.b.c2; have zb3 := hSw.b.c3; clear hSw; go_simp; first | done | with_reducible rfl)
  try simp only [Act.put, List.setIfInBounds_toArray, List.set_cons_zero, List.set_cons_succ]
  refine wpAnyH_take (i := 39) (oi := { dst := some 94, op := Op.binOp BinOp.eql 24 (Operand.tmp 92) (Operand.tmp 93) 24, type := 4, pos := "law.go:33", after := #[{ on := 37, ground := Ground.data }, { on := 38, ground := Ground.data }, { on := 36, ground := Ground.guard }], guard := some (36, true) }) (v := ?_) rfl (by kernel_rfl) (by kernel_rfl) (by kernel_rfl) (fun _ _ _ h => h) (Or.inl ⟨by rfl, ?_⟩) (by assumption) ?_
  rotate_left
  · (intro wq hSw; (try dsimp only at hSw); have zd0 := hSw.d.c0; have zd1 := hSw.d.c1; have zd2 := hSw.d.c2; have zd3 := hSw.d.c3; have za0 := hSw.a.c0; have za1 := hSw.a.c1; have za2 := hSw.a.c2; have za3 := hSw.a.c3; have zb0 := hSw.b.c0; have zb1 := hSw.b.c1; have zb2 := hSw.b.c2; have zb3 := hSw.b.c3; clear hSw; go_simp; first | done | with_reducible rfl)
  try simp only [Act.put, List.setIfInBounds_toArray, List.set_cons_zero, List.set_cons_succ]
  refine wpAnyH_take (i := 40) (oi := { dst := some 95, op := Op.pick (Operand.tmp 91) (Operand.tmp 94) (Operand.const (Value.bool false)), type := 4, pos := "law.go:33", after := #[{ on := 36, ground := Ground.data }, { on := 39, ground := Ground.data }], guard := none }) (v := ?_) rfl (by kernel_rfl) (by kernel_rfl) (by kernel_rfl) (fun _ _ _ h => h) (Or.inl ⟨by rfl, ?_⟩) (by assumption) ?_
  rotate_left
  · (intro wq hSw; (try dsimp only at hSw); have zd0 := hSw.d.c0; have zd1 := hSw.d.c1; have zd2 := hSw.d.c2; have zd3 := hSw.d.c3; have za0 := hSw.a.c0; have za1 := hSw.a.c1; have za2 := hSw.a.c2; have za3 := hSw.a.c3; have zb0 := hSw.b.c0; have zb1 := hSw.b.c1; have zb2 := hSw.b.c2; have zb3 := hSw.b.c3; clear hSw; go_simp; first | done | with_reducible rfl)
  try simp only [Act.put, List.setIfInBounds_toArray, List.set_cons_zero, List.set_cons_succ]
  refine wpAnyH_take (i := 41) (oi := { dst := some 96, op := Op.move (Operand.tmp 95), type := 4, pos := "law.go:33", after := #[{ on := 40, ground := Ground.data }, { on := 36, ground := Ground.chain }], guard := none }) (v := ?_) rfl (by kernel_rfl) (by kernel_rfl) (by kernel_rfl) (fun _ _ _ h => h) (Or.inl ⟨by rfl, ?_⟩) (by assumption) ?_
  rotate_left
  · (intro wq hSw; (try dsimp only at hSw); have zd0 := hSw.d.c0; have zd1 := hSw.d.c1; have zd2 := hSw.d.c2; have zd3 := hSw.d.c3; have za0 := hSw.a.c0; have za1 := hSw.a.c1; have za2 := hSw.a.c2; have za3 := hSw.a.c3; have zb0 := hSw.b.c0; have zb1 := hSw.b.c1; have zb2 := hSw.b.c2; have zb3 := hSw.b.c3; clear hSw; go_simp; first | done | with_reducible rfl)
  try simp only [Act.put, List.setIfInBounds_toArray, List.set_cons_zero, List.set_cons_succ]
  refine wpAnyH_take (i := 42) (oi := { dst := some 97, op := Op.move (Operand.tmp 17), type := 3, pos := "law.go:33", after := #[{ on := 41, ground := Ground.guard }], guard := some (41, true) }) (v := ?_) rfl (by kernel_rfl) (by kernel_rfl) (by kernel_rfl) (fun _ _ _ h => h) (Or.inl ⟨by rfl, ?_⟩) (by assumption) ?_
  rotate_left
  · (intro wq hSw; (try dsimp only at hSw); have zd0 := hSw.d.c0; have zd1 := hSw.d.c1; have zd2 := hSw.d.c2; have zd3 := hSw.d.c3; have za0 := hSw.a.c0; have za1 := hSw.a.c1; have za2 := hSw.a.c2; have za3 := hSw.a.c3; have zb0 := hSw.b.c0; have zb1 := hSw.b.c1; have zb2 := hSw.b.c2; have zb3 := hSw.b.c3; clear hSw; go_simp; first | done | with_reducible rfl)
  try simp only [Act.put, List.setIfInBounds_toArray, List.set_cons_zero, List.set_cons_succ]
  refine wpAnyH_take (i := 43) (oi := { dst := some 98, op := Op.move (Operand.tmp 19), type := 3, pos := "law.go:33", after := #[{ on := 41, ground := Ground.guard }], guard := some (41, true) }) (v := ?_) rfl (by kernel_rfl) (by kernel_rfl) (by kernel_rfl) (fun _ _ _ h => h) (Or.inl ⟨by rfl, ?_⟩) (by assumption) ?_
  rotate_left
  · (intro wq hSw; (try dsimp only at hSw); have zd0 := hSw.d.c0; have zd1 := hSw.d.c1; have zd2 := hSw.d.c2; have zd3 := hSw.d.c3; have za0 := hSw.a.c0; have za1 := hSw.a.c1; have za2 := hSw.a.c2; have za3 := hSw.a.c3; have zb0 := hSw.b.c0; have zb1 := hSw.b.c1; have zb2 := hSw.b.c2; have zb3 := hSw.b.c3; clear hSw; go_simp; first | done | with_reducible rfl)
  try simp only [Act.put, List.setIfInBounds_toArray, List.set_cons_zero, List.set_cons_succ]
  refine wpAnyH_take (i := 44) (oi := { dst := some 99, op := Op.binOp BinOp.eql 3 (Operand.tmp 97) (Operand.tmp 98) 3, type := 4, pos := "law.go:33", after := #[{ on := 42, ground := Ground.data }, { on := 43, ground := Ground.data }, { on := 41, ground := Ground.guard }], guard := some (41, true) }) (v := ?_) rfl (by kernel_rfl) (by kernel_rfl) (by kernel_rfl) (fun _ _ _ h => h) (Or.inl ⟨by rfl, ?_⟩) (by assumption) ?_
  rotate_left
  · (intro wq hSw; (try dsimp only at hSw); have zd0 := hSw.d.c0; have zd1 := hSw.d.c1; have zd2 := hSw.d.c2; have zd3 := hSw.d.c3; have za0 := hSw.a.c0; have za1 := hSw.a.c1; have za2 := hSw.a.c2; have za3 := hSw.a.c3; have zb0 := hSw.b.c0; have zb1 := hSw.b.c1; have zb2 := hSw.b.c2; have zb3 := hSw.b.c3; clear hSw; go_simp; first | done | with_reducible rfl)
  try simp only [Act.put, List.setIfInBounds_toArray, List.set_cons_zero, List.set_cons_succ]
  refine wpAnyH_take (i := 45) (oi := { dst := some 100, op := Op.pick (Operand.tmp 96) (Operand.tmp 99) (Operand.const (Value.bool false)), type := 4, pos := "law.go:33", after := #[{ on := 41, ground := Ground.data }, { on := 44, ground := Ground.data }], guard := none }) (v := ?_) rfl (by kernel_rfl) (by kernel_rfl) (by kernel_rfl) (fun _ _ _ h => h) (Or.inl ⟨by rfl, ?_⟩) (by assumption) ?_
  rotate_left
  · (intro wq hSw; (try dsimp only at hSw); have zd0 := hSw.d.c0; have zd1 := hSw.d.c1; have zd2 := hSw.d.c2; have zd3 := hSw.d.c3; have za0 := hSw.a.c0; have za1 := hSw.a.c1; have za2 := hSw.a.c2; have za3 := hSw.a.c3; have zb0 := hSw.b.c0; have zb1 := hSw.b.c1; have zb2 := hSw.b.c2; have zb3 := hSw.b.c3; clear hSw; go_simp; first | done | with_reducible rfl)
  try simp only [Act.put, List.setIfInBounds_toArray, List.set_cons_zero, List.set_cons_succ]
  refine wpAnyH_take (i := 46) (oi := { dst := some 101, op := Op.move (Operand.tmp 100), type := 4, pos := "law.go:33", after := #[{ on := 45, ground := Ground.data }, { on := 41, ground := Ground.chain }], guard := none }) (v := ?_) rfl (by kernel_rfl) (by kernel_rfl) (by kernel_rfl) (fun _ _ _ h => h) (Or.inl ⟨by rfl, ?_⟩) (by assumption) ?_
  rotate_left
  · (intro wq hSw; (try dsimp only at hSw); have zd0 := hSw.d.c0; have zd1 := hSw.d.c1; have zd2 := hSw.d.c2; have zd3 := hSw.d.c3; have za0 := hSw.a.c0; have za1 := hSw.a.c1; have za2 := hSw.a.c2; have za3 := hSw.a.c3; have zb0 := hSw.b.c0; have zb1 := hSw.b.c1; have zb2 := hSw.b.c2; have zb3 := hSw.b.c3; clear hSw; go_simp; first | done | with_reducible rfl)
  try simp only [Act.put, List.setIfInBounds_toArray, List.set_cons_zero, List.set_cons_succ]
  refine wpAnyH_take (i := 47) (oi := { dst := some 102, op := Op.move (Operand.tmp 18), type := 4, pos := "law.go:33", after := #[{ on := 46, ground := Ground.guard }], guard := some (46, true) }) (v := ?_) rfl (by kernel_rfl) (by kernel_rfl) (by kernel_rfl) (fun _ _ _ h => h) (Or.inl ⟨by rfl, ?_⟩) (by assumption) ?_
  rotate_left
  · (intro wq hSw; (try dsimp only at hSw); have zd0 := hSw.d.c0; have zd1 := hSw.d.c1; have zd2 := hSw.d.c2; have zd3 := hSw.d.c3; have za0 := hSw.a.c0; have za1 := hSw.a.c1; have za2 := hSw.a.c2; have za3 := hSw.a.c3; have zb0 := hSw.b.c0; have zb1 := hSw.b.c1; have zb2 := hSw.b.c2; have zb3 := hSw.b.c3; clear hSw; go_simp; first | done | with_reducible rfl)
  try simp only [Act.put, List.setIfInBounds_toArray, List.set_cons_zero, List.set_cons_succ]
  refine wpAnyH_take (i := 48) (oi := { dst := some 103, op := Op.move (Operand.tmp 20), type := 4, pos := "law.go:33", after := #[{ on := 46, ground := Ground.guard }], guard := some (46, true) }) (v := ?_) rfl (by kernel_rfl) (by kernel_rfl) (by kernel_rfl) (fun _ _ _ h => h) (Or.inl ⟨by rfl, ?_⟩) (by assumption) ?_
  rotate_left
  · (intro wq hSw; (try dsimp only at hSw); have zd0 := hSw.d.c0; have zd1 := hSw.d.c1; have zd2 := hSw.d.c2; have zd3 := hSw.d.c3; have za0 := hSw.a.c0; have za1 := hSw.a.c1; have za2 := hSw.a.c2; have za3 := hSw.a.c3; have zb0 := hSw.b.c0; have zb1 := hSw.b.c1; have zb2 := hSw.b.c2; have zb3 := hSw.b.c3; clear hSw; go_simp; first | done | with_reducible rfl)
  try simp only [Act.put, List.setIfInBounds_toArray, List.set_cons_zero, List.set_cons_succ]
  refine wpAnyH_take (i := 49) (oi := { dst := some 104, op := Op.binOp BinOp.eql 4 (Operand.tmp 102) (Operand.tmp 103) 4, type := 4, pos := "law.go:33", after := #[{ on := 47, ground := Ground.data }, { on := 48, ground := Ground.data }, { on := 46, ground := Ground.guard }], guard := some (46, true) }) (v := ?_) rfl (by kernel_rfl) (by kernel_rfl) (by kernel_rfl) (fun _ _ _ h => h) (Or.inl ⟨by rfl, ?_⟩) (by assumption) ?_
  rotate_left
  · (intro wq hSw; (try dsimp only at hSw); have zd0 := hSw.d.c0; have zd1 := hSw.d.c1; have zd2 := hSw.d.c2; have zd3 := hSw.d.c3; have za0 := hSw.a.c0; have za1 := hSw.a.c1; have za2 := hSw.a.c2; have za3 := hSw.a.c3; have zb0 := hSw.b.c0; have zb1 := hSw.b.c1; have zb2 := hSw.b.c2; have zb3 := hSw.b.c3; clear hSw; go_simp; first | done | with_reducible rfl)
  try simp only [Act.put, List.setIfInBounds_toArray, List.set_cons_zero, List.set_cons_succ]
  refine wpAnyH_take (i := 50) (oi := { dst := some 105, op := Op.pick (Operand.tmp 101) (Operand.tmp 104) (Operand.const (Value.bool false)), type := 4, pos := "law.go:33", after := #[{ on := 46, ground := Ground.data }, { on := 49, ground := Ground.data }], guard := none }) (v := ?_) rfl (by kernel_rfl) (by kernel_rfl) (by kernel_rfl) (fun _ _ _ h => h) (Or.inl ⟨by rfl, ?_⟩) (by assumption) ?_
  rotate_left
  · (intro wq hSw; (try dsimp only at hSw); have zd0 := hSw.d.c0; have zd1 := hSw.d.c1; have zd2 := hSw.d.c2; have zd3 := hSw.d.c3; have za0 := hSw.a.c0; have za1 := hSw.a.c1; have za2 := hSw.a.c2; have za3 := hSw.a.c3; have zb0 := hSw.b.c0; have zb1 := hSw.b.c1; have zb2 := hSw.b.c2; have zb3 := hSw.b.c3; clear hSw; go_simp; first | done | with_reducible rfl)
  try simp only [Act.put, List.setIfInBounds_toArray, List.set_cons_zero, List.set_cons_succ]
  refine wpAnyH_take (i := 51) (oi := { dst := some 106, op := Op.move (Operand.tmp 105), type := 4, pos := "law.go:33", after := #[{ on := 50, ground := Ground.data }, { on := 46, ground := Ground.chain }], guard := none }) (v := ?_) rfl (by kernel_rfl) (by kernel_rfl) (by kernel_rfl) (fun _ _ _ h => h) (Or.inl ⟨by rfl, ?_⟩) (by assumption) ?_
  rotate_left
  · (intro wq hSw; (try dsimp only at hSw); have zd0 := hSw.d.c0; have zd1 := hSw.d.c1; have zd2 := hSw.d.c2; have zd3 := hSw.d.c3; have za0 := hSw.a.c0; have za1 := hSw.a.c1; have za2 := hSw.a.c2; have za3 := hSw.a.c3; have zb0 := hSw.b.c0; have zb1 := hSw.b.c1; have zb2 := hSw.b.c2; have zb3 := hSw.b.c3; clear hSw; go_simp; first | done | with_reducible rfl)
  try simp only [Act.put, List.setIfInBounds_toArray, List.set_cons_zero, List.set_cons_succ]
  refine wpAnyH_ready (rs := [52]) (by kernel_rfl) (by simp) ?_
  refine AllReadyH.cons (o := { dst := some 107, op := Op.call { callee := Callee.value (Operand.func 73), args := #[], argTypes := #[] }, type := 4, pos := "law.go:33", after := #[{ on := 51, ground := Ground.chain }, { on := 51, ground := Ground.guard }], guard := some (51, true) }) rfl (fun K hK => ?_) AllReadyH.nil
  go_simp
  refine (awake2_any _).mono ?_
  rintro e v9 ⟨rfl, hq⟩
  have hq : Below v8.heap.size v8 v9 := ⟨hq.os, hq.tape, hq.output, hq.size, hq.block⟩
  have hS := hHeld.keep hq
  go_wp2_with fail
  refine hK.out _ _ hS (fun hHeld => ?_)
  clear hK K hHeld
  clear hq
  have hHeld := hS
  clear hS
  try simp only [Act.put, List.setIfInBounds_toArray, List.set_cons_zero, List.set_cons_succ]
  refine wpAnyH_take (i := 53) (oi := { dst := some 108, op := Op.pick (Operand.tmp 106) (Operand.tmp 107) (Operand.const (Value.bool false)), type := 4, pos := "law.go:33", after := #[{ on := 51, ground := Ground.data }, { on := 52, ground := Ground.data }], guard := none }) (v := ?_) rfl (by kernel_rfl) (by kernel_rfl) (by kernel_rfl) (fun _ _ _ h => h) (Or.inl ⟨by rfl, ?_⟩) (by assumption) ?_
  rotate_left
  · (intro wq hSw; (try dsimp only at hSw); have zd0 := hSw.d.c0; have zd1 := hSw.d.c1; have zd2 := hSw.d.c2; have zd3 := hSw.d.c3; have za0 := hSw.a.c0; have za1 := hSw.a.c1; have za2 := hSw.a.c2; have za3 := hSw.a.c3; have zb0 := hSw.b.c0; have zb1 := hSw.b.c1; have zb2 := hSw.b.c2; have zb3 := hSw.b.c3; clear hSw; go_simp; first | done | with_reducible rfl)
  try simp only [Act.put, List.setIfInBounds_toArray, List.set_cons_zero, List.set_cons_succ]
  refine wpAnyH_take (i := 54) (oi := { dst := some 8, op := Op.assign (Operand.tmp 108), type := 4, pos := "law.go:33", after := #[{ on := 53, ground := Ground.data }, { on := 52, ground := Ground.chain }, { on := 0, ground := Ground.phase }, { on := 1, ground := Ground.phase }, { on := 2, ground := Ground.phase }, { on := 3, ground := Ground.phase }, { on := 4, ground := Ground.phase }, { on := 5, ground := Ground.phase }, { on := 6, ground := Ground.phase }, { on := 7, ground := Ground.phase }, { on := 8, ground := Ground.phase }, { on := 9, ground := Ground.phase }, { on := 10, ground := Ground.phase }, { on := 11, ground := Ground.phase }, { on := 12, ground := Ground.phase }, { on := 13, ground := Ground.phase }, { on := 14, ground := Ground.phase }, { on := 15, ground := Ground.phase }, { on := 16, ground := Ground.phase }, { on := 17, ground := Ground.phase }, { on := 18, ground := Ground.phase }, { on := 19, ground := Ground.phase }, { on := 20, ground := Ground.phase }, { on := 21, ground := Ground.phase }, { on := 22, ground := Ground.phase }, { on := 23, ground := Ground.phase }, { on := 24, ground := Ground.phase }, { on := 25, ground := Ground.phase }, { on := 26, ground := Ground.phase }, { on := 27, ground := Ground.phase }, { on := 28, ground := Ground.phase }, { on := 29, ground := Ground.phase }, { on := 30, ground := Ground.phase }, { on := 31, ground := Ground.phase }, { on := 32, ground := Ground.phase }, { on := 33, ground := Ground.phase }, { on := 34, ground := Ground.phase }, { on := 35, ground := Ground.phase }, { on := 36, ground := Ground.phase }, { on := 37, ground := Ground.phase }, { on := 38, ground := Ground.phase }, { on := 39, ground := Ground.phase }, { on := 40, ground := Ground.phase }, { on := 41, ground := Ground.phase }, { on := 42, ground := Ground.phase }, { on := 43, ground := Ground.phase }, { on := 44, ground := Ground.phase }, { on := 45, ground := Ground.phase }, { on := 46, ground := Ground.phase }, { on := 47, ground := Ground.phase }, { on := 48, ground := Ground.phase }, { on := 49, ground := Ground.phase }, { on := 50, ground := Ground.phase }, { on := 51, ground := Ground.phase }, { on := 52, ground := Ground.phase }, { on := 53, ground := Ground.phase }], guard := none }) (v := ?_) rfl (by kernel_rfl) (by kernel_rfl) (by kernel_rfl) (fun _ _ _ h => h) (Or.inl ⟨by rfl, ?_⟩) (by assumption) ?_
  rotate_left
  · (intro wq hSw; (try dsimp only at hSw); have zd0 := hSw.d.c0; have zd1 := hSw.d.c1; have zd2 := hSw.d.c2; have zd3 := hSw.d.c3; have za0 := hSw.a.c0; have za1 := hSw.a.c1; have za2 := hSw.a.c2; have za3 := hSw.a.c3; have zb0 := hSw.b.c0; have zb1 := hSw.b.c1; have zb2 := hSw.b.c2; have zb3 := hSw.b.c3; clear hSw; go_simp; first | done | with_reducible rfl)
  try simp only [Act.put, List.setIfInBounds_toArray, List.set_cons_zero, List.set_cons_succ]
  refine wpAnyH_done (by kernel_rfl) ?_ _
  have T9 := Lib.hid hHeld
  clear hHeld
  go_wp2
  exact bodyPost_ret (v := .bool true) (by simp [results, Try.results11, go_sem, *]) rfl ⟨rfl, T9.out.below⟩
end Go.Proofs.Ytabgphlpdoockaa
