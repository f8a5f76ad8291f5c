/-
  Part 11: DomM, DomN, DKit, RDA, DQ, DKit2.
-/
import Derived.Test.YtmelknodmbdhpaaOn1
import Derived.Test.YtmelknodmbdhpaaOn6
import Derived.Test.YtmelknodmbdhpaaOn10
import Derived.BigQuiet
import Derived.Carry
import Derived.Deep.CutBlock
import Derived.Deep.DeepCutAuto
import Derived.Deep.DrawnRows
import Derived.Deep.LoopGhost
import Derived.Deep.QuietTactic
import Derived.Deep.RegionHeld3
import Derived.Deep.RegionWith
import Derived.Deep.Slices
import Derived.Deep.Strs
import Derived.Lib.Hide
import Derived.WalkKit
import Derived.WalkLawsBesides
import Derived.WalkSpells
namespace Go.Proofs.Ytmelknodmbdhpaa
open Go.RowKit
theorem interF_uniq {l1 h1 s1 l2 h2 s2 a b c a' b' c' : Int} (h : InterF l1 h1 s1 l2 h2 s2 a b c) (h' : InterF l1 h1 s1 l2 h2 s2 a' b' c') : a = a' ∧ b = b' ∧ c = c' :=
  canonS h.1 h'.1 (fun n => (h.2.1 n).trans (h'.2.1 n).symm) (fun lt => by
    have e := canon h.1 h'.1 (fun n => (h.2.1 n).trans (h'.2.1 n).symm)
    exact (h.2.2 lt).trans (h'.2.2 (by omega)).symm)
theorem ex_inter : InterF 0 2 1 1 1 1 1 1 1 := by
  refine ⟨by decide, fun n => ?_, fun h => by omega⟩
  unfold RMem Mem
  have e : magA 1 = 1 := by decide
  rw [e]
  omega
theorem ex_sub {C : List R3} {Ds : List (List R3)} {er : Int} (hm : Meets [(0, 2, 1), (0, 2, 1)] [(1, 1, 1), (1, 1, 1)] C) (h : DSubs [(0, 2, 1), (0, 2, 1)] [(1, 1, 1), (1, 1, 1)] C Ds er) : er = 0 ∧ Ds.length = 4 := by
  have hC : C = [(1, 1, 1), (1, 1, 1)] := by
    have hl : C.length = 2 := hm.1
    match C, hl with
    | [x, y], _ =>
      obtain ⟨A, B, hA, hB, f⟩ := hm.2 0 x rfl
      obtain ⟨A', B', hA', hB', f'⟩ := hm.2 1 y rfl
      simp at hA hB hA' hB'
      subst hA hB hA' hB'
      obtain ⟨e1, e2, e3⟩ := interF_uniq f ex_inter
      obtain ⟨e4, e5, e6⟩ := interF_uniq f' ex_inter
      obtain ⟨x0, x1, x2⟩ := x
      obtain ⟨y0, y1, y2⟩ := y
      simp only at e1 e2 e3 e4 e5 e6
      subst e1 e2 e3 e4 e5 e6
      rfl
  subst hC
  have hP : ∀ (i : Nat) (P : List R3), i < 2 → SubsP [(0, 2, 1), (0, 2, 1)] [(1, 1, 1), (1, 1, 1)] i P → P = [(0, 0, 1), (2, 2, 1)] := by
    rintro i P hi ⟨A, B, l, h, s, hA, hB, f, rfl⟩
    have eA : A = (0, 2, 1) := by
      match i, hi, hA with
      | 0, _, hA => simpa using hA.symm
      | 1, _, hA => simpa using hA.symm
    have eB : B = (1, 1, 1) := by
      match i, hi, hB with
      | 0, _, hB => simpa using hB.symm
      | 1, _, hB => simpa using hB.symm
    subst eA eB
    obtain ⟨e1, e2, e3⟩ := interF_uniq f ex_inter
    subst e1 e2 e3
    decide
  rcases h with ⟨h0, _⟩ | ⟨_, h0, _⟩ | ⟨_, _, PS, hPS, h⟩
  · exact absurd h0 (by decide)
  · exact absurd h0 (by decide)
  · rcases h with ⟨hl, _, e, rfl⟩ | ⟨P, hl, _, hS, hb, _⟩
    · refine ⟨e, ?_⟩
      have hl2 : PS.length = 2 := hl
      match PS, hl2 with
      | [P, Q], _ =>
        have e1 := hP 0 P (by omega) (hPS 0 P rfl)
        have e2 := hP 1 Q (by omega) (hPS 1 Q rfl)
        subst e1 e2
        decide
    · have e := hP PS.length P hl hS
      rw [e] at hb
      exact absurd hb (by decide)
theorem mkR_any (l h s : Int) (w : World) : Calls Try.prog 146 #[.int .i64 l, .int .i64 h, .int .i64 s] w fun e w' => e = .returned (.agg #[.int .i64 l, .int .i64 h, .int .i64 s]) ∧ Below w.heap.size w w' := by
  go_enter Try.func146, Try.ntmps146
  go_wp2
  refine bodyPost_ret (v := .agg #[.int .i64 l, .int .i64 h, .int .i64 s]) (by simp [results, Try.results146, go_sem, *]) rfl ⟨rfl, ?_⟩
  repeat (first | exact below_new _ _ | refine Below.setCell ?_ (by simp; try omega) _)
/-- a block of two ranges -/
theorem two_at (x y : R3) (w : World) (t : TypeId) : At3 (w.alloc (.cells #[.int .i64 x.1, .int .i64 x.2.1, .int .i64 x.2.2, .int .i64 y.1, .int .i64 y.2.1, .int .i64 y.2.2] t)) w.heap.size 0 [x, y] := fun j z hz => by
  match j, hz with
  | 0, hz => simp at hz; subst hz; simp [go_sem]
  | 1, hz => simp at hz; subst hz; simp [go_sem]
theorem two_rd (x y : R3) (w : World) (t : TypeId) : Rd (w.alloc (.cells #[.int .i64 x.1, .int .i64 x.2.1, .int .i64 x.2.2, .int .i64 y.1, .int .i64 y.2.1, .int .i64 y.2.2] t)) (.slice (some ⟨w.heap.size, 0, none⟩) 2 2) [x, y] :=
  ⟨_, 2, rfl, Or.inr ⟨w.heap.size, 0, rfl, by simp, two_at x y w t⟩⟩
theorem ok3_two {x y : R3} (hx : I64 x.1 ∧ I64 x.2.1 ∧ I64 x.2.2) (hy : I64 y.1 ∧ I64 y.2.1 ∧ I64 y.2.2) : Ok3 [x, y] := fun z hz => by
  rcases List.mem_cons.1 hz with rfl | hz
  · exact hx
  · rcases List.mem_cons.1 hz with rfl | hz
    · exact hy
    · cases hz
theorem i64s (a b c : Int) (ha : 0 ≤ a ∧ a ≤ 9) (hb : 0 ≤ b ∧ b ≤ 9) (hc : 0 ≤ c ∧ c ≤ 9) : I64 a ∧ I64 b ∧ I64 c := by unfold I64; omega
theorem exOk1 : Ok3 [(1, 5, 2), (0, 1, 1)] := ok3_two (i64s 1 5 2 (by omega) (by omega) (by omega)) (i64s 0 1 1 (by omega) (by omega) (by omega))
theorem exOk2 : Ok3 [(0, 2, 1), (0, 2, 1)] := ok3_two (i64s 0 2 1 (by omega) (by omega) (by omega)) (i64s 0 2 1 (by omega) (by omega) (by omega))
theorem exOk3 : Ok3 [(1, 1, 1), (1, 1, 1)] := ok3_two (i64s 1 1 1 (by omega) (by omega) (by omega)) (i64s 1 1 1 (by omega) (by omega) (by omega))
theorem ex_of (w : World) (v : Value) (hr : Rd w v [(1, 5, 2), (0, 1, 1)]) : Calls Try.prog 60 #[v] w fun e w' => ∃ (g c : Nat), e = .returned (.tuple #[.agg #[.slice (some ⟨g, 0, none⟩) 2 c, .int .i64 0, .int .i64 0, .int .i64 0], .int .i64 0]) ∧ Below w.heap.size w w' ∧
    Hid (w'.ownsRow w.heap.size 23 3 (.slice (some ⟨g, 0, none⟩) 2 c) 2 (cells3 [(1, 5, 2), (0, 1, 1)])) :=
  (Dof_any v _ w hr exOk1).mono fun e w' ⟨rv, er, he, hb, hF⟩ => by
    have e0 : ofErr [(1, 5, 2), (0, 1, 1)] = 0 := by decide
    have e1 : ([(1, 5, 2), (0, 1, 1)] : List R3).map upR = [(1, 5, 2), (0, 1, 1)] := by decide
    rw [e0, e1] at hF
    obtain ⟨rfl, h⟩ := hF.out
    rcases h with ⟨_, own⟩ | ⟨h, _⟩
    · obtain ⟨a, c, rfl⟩ := owns_slice own
      obtain ⟨g, rfl⟩ := owns_addr own (by decide)
      exact ⟨g, c, he, hb, Lib.hid own⟩
    · exact absurd rfl h
theorem ex_nth (w : World) (v : Value) (hr : Rd w v [(1, 5, 2), (0, 1, 1)]) : Calls Try.prog 62 #[.agg #[v, .int .i64 0, .int .i64 0, .int .i64 0], .int .i64 3] w fun e w' => ∃ (g c : Nat), e = .returned (.tuple #[.slice (some ⟨g, 0, none⟩) 2 c, .int .i64 0]) ∧ Below w.heap.size w w' ∧
    Hid (w'.ownsRow w.heap.size 3 1 (.slice (some ⟨g, 0, none⟩) 2 c) 2 (([3, 1] : List Int).map (Value.int .i64))) :=
  (Dnth_any v _ 0 0 0 3 w hr exOk1).mono fun e w' ⟨rv, er, he, hb, hF⟩ => by
    have e0 : dnthE [(1, 5, 2), (0, 1, 1)] 0 0 0 3 = 0 := by decide
    have e1 : idxL [(1, 5, 2), (0, 1, 1)] 3 = [3, 1] := by decide
    rw [e0, e1] at hF
    obtain ⟨rfl, h⟩ := hF.out
    rcases h with ⟨_, own⟩ | ⟨h, _⟩
    · obtain ⟨a, c, rfl⟩ := owns_slice own
      obtain ⟨g, rfl⟩ := owns_addr own (by decide)
      exact ⟨g, c, he, hb, Lib.hid own⟩
    · exact absurd rfl h
theorem ex_subtract (w : World) (v v' : Value) (hr : Rd w v [(0, 2, 1), (0, 2, 1)]) (hr' : Rd w v' [(1, 1, 1), (1, 1, 1)]) (hcap : ∀ a n c, v = .slice a n c → n ≤ c) : Calls Try.prog 84 #[.agg #[v, .int .i64 0, .int .i64 0, .int .i64 0], .agg #[v', .int .i64 0, .int .i64 0, .int .i64 0]] w fun e w' => ∃ (a : Option Addr) (c : Nat), e = .returned (.tuple #[.slice a 4 c, .int .i64 0]) ∧ Below w.heap.size w w' :=
  (Dsub_any v _ 0 0 0 v' _ 0 0 0 w hr exOk2 hr' exOk3 hcap).mono fun e w' ⟨rv, er, he, hb, hF⟩ => by
    have e0 : dboth [(0, 2, 1), (0, 2, 1)] 0 0 0 [(1, 1, 1), (1, 1, 1)] 0 0 0 = 0 := by decide
    rcases hF.out with ⟨h, _⟩ | ⟨_, C, Ds, hm, hs, us, eu, own, _⟩
    · exact absurd e0 h
    · obtain ⟨rfl, e4⟩ := ex_sub hm hs
      obtain ⟨a, c, rfl⟩ := owns_slice own
      rw [eu, e4] at he
      exact ⟨a, c, he, hb⟩
theorem ex_size (w : World) (v : Value) (hr : Rd w v [(1, 5, 2), (0, 1, 1)]) : Calls Try.prog 69 #[.agg #[v, .int .i64 0, .int .i64 0, .int .i64 0]] w fun e w' => e = .returned (.int .i64 6) ∧ Below w.heap.size w w' := by
  have e0 : dsiz [(1, 5, 2), (0, 1, 1)] 0 0 0 = 6 := by decide
  have h := Dsize_any v _ 0 0 0 w hr exOk1
  rw [e0] at h; exact h
set_option maxRecDepth 100000 in
set_option maxHeartbeats 6400000 in
theorem awake2_any (w : World) : Calls Try.prog 73 #[] w fun e w' => e = .returned (.bool true) ∧ Below w.heap.size w w' := by
  go_enter Try.func73, Try.ntmps73
  go_wp2_with fail
  refine (mkR_any 1 5 2 _).mono ?_
  rintro e w1 ⟨rfl, hb1⟩
  go_wp2_with fail
  refine (mkR_any 0 1 1 _).mono ?_
  rintro e w2 ⟨rfl, hb2⟩
  have B2 := Lib.hid (hb1.trans (hb2.mono hb1.size))
  clear hb1 hb2
  have R2 := Lib.hid (two_rd (1, 5, 2) (0, 1, 1) w2 23)
  have B3 : Hid (Below w.heap.size w (w2.alloc (.cells #[.int .i64 1, .int .i64 5, .int .i64 2, .int .i64 0, .int .i64 1, .int .i64 1] 23))) := Lib.hid (B2.out.trans ((below_new _ _).mono B2.out.size))
  go_wp2_with fail
  refine (ex_of _ _ R2.out).mono ?_
  rintro e w4 ⟨gv, cv, rfl, hb4, hV⟩
  have B4 := Lib.hid (B3.out.trans (hb4.mono B3.out.size))
  have NB := Lib.hid (below_new w4 (.cells #[.slice (some ⟨gv, 0, none⟩) 2 cv, .int .i64 0, .int .i64 0, .int .i64 0] 62))
  have D5 := Lib.hid (Blk.new (.slice (some ⟨gv, 0, none⟩) 2 cv) (.int .i64 0) (.int .i64 0) (.int .i64 0) 62 w4)
  have V5 := Lib.hid (owns_below hV.out NB.out)
  have B5 := Lib.hid (B4.out.trans (NB.out.mono B4.out.size))
  clear hV hb4 B3 R2 B2
  go_upto_region 3 with fail
  generalize w4.alloc (.cells #[.slice (some ⟨gv, 0, none⟩) 2 cv, .int .i64 0, .int .i64 0, .int .i64 0] 62) = w5 at *
  generalize w4.heap.size = db at *
  have x0 := D5.out.c0
  have x1 := D5.out.c1
  have x2 := D5.out.c2
  have x3 := D5.out.c3
  go_wp2_with fail
  refine (ex_nth _ _ (Rd.of_own (L := [(1, 5, 2), (0, 1, 1)]) V5.out)).mono ?_
  rintro e w6 ⟨gx, cx, rfl, hb6, hX⟩
  have B6 := Lib.hid (B5.out.trans (hb6.mono B5.out.size))
  have D6 := Lib.hid (D5.out.keep hb6)
  have V6 := Lib.hid (owns_below V5.out hb6)
  have X6 := hX
  clear hX hb6 V5 D5 B5 B4 NB x0 x1 x2 x3
  go_wp2_with fail
  refine (mkR_any 0 2 1 _).mono ?_
  rintro e w7 ⟨rfl, hb7⟩
  go_wp2_with fail
  refine (mkR_any 0 2 1 _).mono ?_
  rintro e w8 ⟨rfl, hb8⟩
  have h68 := hb7.trans (hb8.mono hb7.size)
  have B8 := Lib.hid (B6.out.trans (h68.mono B6.out.size))
  have D8 := Lib.hid (D6.out.keep h68)
  have V8 := Lib.hid (owns_below V6.out h68)
  have X8 := Lib.hid (owns_below X6.out h68)
  have NB := Lib.hid (below_new w8 (.cells #[.int .i64 0, .int .i64 2, .int .i64 1, .int .i64 0, .int .i64 2, .int .i64 1] 23))
  have W9 := Lib.hid (two_rd (0, 2, 1) (0, 2, 1) w8 23)
  clear hb7 hb8 h68 B6 D6 V6 X6
  have z8 := B8.out.size
  have EE : Hid (Blk (w8.heap.size + 1) (.slice (some ⟨w8.heap.size, 0, none⟩) 2 2) (.int .i64 0) (.int .i64 0) (.int .i64 0) ((w8.alloc (.cells #[.int .i64 0, .int .i64 2, .int .i64 1, .int .i64 0, .int .i64 2, .int .i64 1] 23)).alloc (.cells #[.slice (some ⟨w8.heap.size, 0, none⟩) 2 2, .int .i64 0, .int .i64 0, .int .i64 0] 62))) := Lib.hid (by
    have e : (w8.alloc (.cells #[.int .i64 0, .int .i64 2, .int .i64 1, .int .i64 0, .int .i64 2, .int .i64 1] 23)).heap.size = w8.heap.size + 1 := by simp
    rw [← e]; exact Blk.new _ _ _ _ _ _)
  have hN : Hid (Below w8.heap.size w8 ((w8.alloc (.cells #[.int .i64 0, .int .i64 2, .int .i64 1, .int .i64 0, .int .i64 2, .int .i64 1] 23)).alloc (.cells #[.slice (some ⟨w8.heap.size, 0, none⟩) 2 2, .int .i64 0, .int .i64 0, .int .i64 0] 62))) := Lib.hid (NB.out.trans ((below_new _ _).mono NB.out.size))
  have WA := Lib.hid (W9.out.keep (below_new (w8.alloc (.cells #[.int .i64 0, .int .i64 2, .int .i64 1, .int .i64 0, .int .i64 2, .int .i64 1] 23)) (.cells #[.slice (some ⟨w8.heap.size, 0, none⟩) 2 2, .int .i64 0, .int .i64 0, .int .i64 0] 62)))
  go_upto_region 5 with fail
  generalize (w8.alloc (.cells #[.int .i64 0, .int .i64 2, .int .i64 1, .int .i64 0, .int .i64 2, .int .i64 1] 23)).alloc (.cells #[.slice (some ⟨w8.heap.size, 0, none⟩) 2 2, .int .i64 0, .int .i64 0, .int .i64 0] 62) = wA at *
  have E1 := EE
  have x0 := E1.out.c0
  have x1 := E1.out.c1
  have x2 := E1.out.c2
  have x3 := E1.out.c3
  clear NB W9 EE
  refine wp_region_held_drew (S := (fun w' => w'.cell? ⟨w8.heap.size + 1, 0, none⟩ = some (.slice (some ⟨w8.heap.size, 0, none⟩) 2 2) ∧ w'.cell? ⟨w8.heap.size + 1, 1, none⟩ = some (.int .i64 0) ∧ w'.cell? ⟨w8.heap.size + 1, 2, none⟩ = some (.int .i64 0) ∧ w'.cell? ⟨w8.heap.size + 1, 3, none⟩ = some (.int .i64 0))) (by kernel_rfl) ?_ (fun hHeld => ?_)
  · first | exact hHeld | exact ⟨x0, x1, x2, x3⟩ | (obtain ⟨q0, q1, q2, q3⟩ := hHeld; refine ⟨?_, ?_, ?_, ?_⟩ <;> simp [go_sem, *]; done) | go_keep
  refine wpAnyH_take (i := 0) (oi := { dst := some 30, op := Op.load 62 (Operand.tmp 6), type := 62, pos := "law.go:18", after := #[], guard := none }) (v := ?_) rfl (by kernel_rfl) (by kernel_rfl) (by kernel_rfl) (fun _ _ _ h => h) (Or.inl ⟨by rfl, ?_⟩) (by assumption) ?_
  rotate_left
  · (intro w hSw; (try dsimp only at hSw); go_simp; first | done | with_reducible rfl)
  try simp only [Act.put, List.setIfInBounds_toArray, List.set_cons_zero, List.set_cons_succ]
  refine wpAnyH_take (i := 1) (oi := { dst := some 31, op := Op.move (Operand.tmp 1), type := 138, pos := "law.go:18", after := #[], guard := none }) (v := ?_) rfl (by kernel_rfl) (by kernel_rfl) (by kernel_rfl) (fun _ _ _ h => h) (Or.inl ⟨by rfl, ?_⟩) (by assumption) ?_
  rotate_left
  · (intro w hSw; (try dsimp only at hSw); go_simp; first | done | with_reducible rfl)
  try simp only [Act.put, List.setIfInBounds_toArray, List.set_cons_zero, List.set_cons_succ]
  refine wpAnyH_take (i := 3) (oi := { dst := some 33, op := Op.move (Operand.tmp 1), type := 138, pos := "law.go:18", after := #[], guard := none }) (v := ?_) rfl (by kernel_rfl) (by kernel_rfl) (by kernel_rfl) (fun _ _ _ h => h) (Or.inl ⟨by rfl, ?_⟩) (by assumption) ?_
  rotate_left
  · (intro w hSw; (try dsimp only at hSw); go_simp; first | done | with_reducible rfl)
  try simp only [Act.put, List.setIfInBounds_toArray, List.set_cons_zero, List.set_cons_succ]
  refine wpAnyH_ready (rs := [2]) (by kernel_rfl) (by simp) ?_
  refine AllReadyH.cons (o := { dst := some 32, op := Op.call { callee := Callee.value (Operand.tmp 31), args := #[Operand.const (Value.int IntKind.i64 1), Operand.const (Value.int IntKind.i64 1), Operand.const (Value.int IntKind.i64 1)], argTypes := #[3, 3, 3] }, type := 23, pos := "law.go:18", after := #[{ on := 1, ground := Ground.data }], guard := none }) rfl (fun K hK => ?_) AllReadyH.nil
  go_simp
  refine (mkR_any 1 1 1 _).mono ?_
  rintro e w10 ⟨rfl, hb10⟩
  have hA : Below wA.heap.size wA w10 := ⟨hb10.os, hb10.tape, hb10.output, hb10.size, hb10.block⟩
  clear hb10
  go_wp2_with fail
  refine hK.out _ _ ?_ (fun hHeld2 => ?_)
  · exact ⟨(hA.cell (p := ⟨w8.heap.size + 1, 0, none⟩) E1.out.size).trans x0, (hA.cell (p := ⟨w8.heap.size + 1, 1, none⟩) E1.out.size).trans x1, (hA.cell (p := ⟨w8.heap.size + 1, 2, none⟩) E1.out.size).trans x2, (hA.cell (p := ⟨w8.heap.size + 1, 3, none⟩) E1.out.size).trans x3⟩
  clear hK K hHeld
  have hHeld := hHeld2
  clear hHeld2
  try simp only [Act.put, List.setIfInBounds_toArray, List.set_cons_zero, List.set_cons_succ]
  refine wpAnyH_ready (rs := [4]) (by kernel_rfl) (by simp) ?_
  refine AllReadyH.cons (o := { dst := some 34, op := Op.call { callee := Callee.value (Operand.tmp 33), args := #[Operand.const (Value.int IntKind.i64 1), Operand.const (Value.int IntKind.i64 1), Operand.const (Value.int IntKind.i64 1)], argTypes := #[3, 3, 3] }, type := 23, pos := "law.go:18", after := #[{ on := 3, ground := Ground.data }, { on := 2, ground := Ground.chain }], guard := none }) rfl (fun K hK => ?_) AllReadyH.nil
  go_simp
  refine (mkR_any 1 1 1 _).mono ?_
  rintro e w11 ⟨rfl, hb11⟩
  have hB : Below wA.heap.size wA w11 := hA.trans (hb11.mono hA.size)
  have NN := Lib.hid (below_new w11 (.cells #[.int .i64 1, .int .i64 1, .int .i64 1, .int .i64 1, .int .i64 1, .int .i64 1] 23))
  have R11 := Lib.hid (two_rd (1, 1, 1) (1, 1, 1) w11 23)
  clear hb11
  go_wp2_with fail
  refine hK.out _ _ ?_ (fun hHeld4 => ?_)
  · exact ⟨(hB.cell (p := ⟨w8.heap.size + 1, 0, none⟩) E1.out.size).trans x0, (hB.cell (p := ⟨w8.heap.size + 1, 1, none⟩) E1.out.size).trans x1, (hB.cell (p := ⟨w8.heap.size + 1, 2, none⟩) E1.out.size).trans x2, (hB.cell (p := ⟨w8.heap.size + 1, 3, none⟩) E1.out.size).trans x3⟩
  clear hK K hHeld
  have hHeld := hHeld4
  clear hHeld4
  try simp only [Act.put, List.setIfInBounds_toArray, List.set_cons_zero, List.set_cons_succ]
  refine wpAnyH_ready (rs := [5]) (by kernel_rfl) (by simp) ?_
  refine AllReadyH.cons (o := { dst := some 35, op := Op.buildSlice 40 2 #[(0, Operand.tmp 32), (1, Operand.tmp 34)], type := 40, pos := "law.go:18", after := #[{ on := 2, ground := Ground.data }, { on := 4, ground := Ground.data }], guard := none }) rfl (fun K hK => ?_) AllReadyH.nil
  go_simp
  refine hK.out _ _ ?_ (fun hHeld5 => ?_)
  · first | exact hHeld | exact ⟨x0, x1, x2, x3⟩ | (obtain ⟨q0, q1, q2, q3⟩ := hHeld; refine ⟨?_, ?_, ?_, ?_⟩ <;> simp [go_sem, *]; done) | go_keep
  clear hK K hHeld
  have hHeld := hHeld5
  clear hHeld5
  try simp only [Act.put, List.setIfInBounds_toArray, List.set_cons_zero, List.set_cons_succ]
  refine wpAnyH_take (i := 6) (oi := { dst := some 36, op := Op.build 62 #[(0, Operand.tmp 35)], type := 62, pos := "law.go:18", after := #[{ on := 5, ground := Ground.data }], guard := none }) (v := ?_) rfl (by kernel_rfl) (by kernel_rfl) (by kernel_rfl) (fun _ _ _ h => h) (Or.inl ⟨by rfl, ?_⟩) (by assumption) ?_
  rotate_left
  · (intro w hSw; (try dsimp only at hSw); go_simp; first | done | with_reducible rfl)
  try simp only [Act.put, List.setIfInBounds_toArray, List.set_cons_zero, List.set_cons_succ]
  refine wpAnyH_ready (rs := [7]) (by kernel_rfl) (by simp) ?_
  refine AllReadyH.cons (o := { dst := some 37, op := Op.call { callee := Callee.value (Operand.func 84), args := #[Operand.tmp 30, Operand.tmp 36], argTypes := #[62, 62] }, type := 78, pos := "law.go:18", after := #[{ on := 0, ground := Ground.data }, { on := 6, ground := Ground.data }, { on := 4, ground := Ground.chain }], guard := none }) rfl (fun K hK => ?_) AllReadyH.nil
  go_simp
  refine (ex_subtract _ _ _ (WA.out.keep (hB.trans (NN.out.mono hB.size))) R11.out (fun a n c e => by cases e; exact Nat.le_refl _)).mono ?_
  rintro e w12 ⟨la, lc, rfl, hb12⟩
  have hC : Below wA.heap.size wA w12 := (hB.trans (NN.out.mono hB.size)).trans (hb12.mono (by have := hB.size; have := NN.out.size; omega))
  clear hb12
  go_wp2_with fail
  refine hK.out _ _ ?_ (fun hHeld7 => ?_)
  · exact ⟨(hC.cell (p := ⟨w8.heap.size + 1, 0, none⟩) E1.out.size).trans x0, (hC.cell (p := ⟨w8.heap.size + 1, 1, none⟩) E1.out.size).trans x1, (hC.cell (p := ⟨w8.heap.size + 1, 2, none⟩) E1.out.size).trans x2, (hC.cell (p := ⟨w8.heap.size + 1, 3, none⟩) E1.out.size).trans x3⟩
  clear hK K hHeld
  have hHeld := hHeld7
  clear hHeld7
  try simp only [Act.put, List.setIfInBounds_toArray, List.set_cons_zero, List.set_cons_succ]
  refine wpAnyH_take (i := 8) (oi := { dst := some 29, op := Op.move (Operand.tmp 37), type := 78, pos := "law.go:18", after := #[{ on := 7, ground := Ground.data }], guard := none }) (v := ?_) rfl (by kernel_rfl) (by kernel_rfl) (by kernel_rfl) (fun _ _ _ h => h) (Or.inl ⟨by rfl, ?_⟩) (by assumption) ?_
  rotate_left
  · (intro w hSw; (try dsimp only at hSw); go_simp; first | done | with_reducible rfl)
  try simp only [Act.put, List.setIfInBounds_toArray, List.set_cons_zero, List.set_cons_succ]
  refine wpAnyH_take (i := 9) (oi := { dst := some 38, op := Op.extract (Operand.tmp 29) 0, type := 77, pos := "law.go:18", after := #[{ on := 8, ground := Ground.data }], guard := none }) (v := ?_) rfl (by kernel_rfl) (by kernel_rfl) (by kernel_rfl) (fun _ _ _ h => h) (Or.inl ⟨by rfl, ?_⟩) (by assumption) ?_
  rotate_left
  · (intro w hSw; (try dsimp only at hSw); go_simp; first | done | with_reducible rfl)
  try simp only [Act.put, List.setIfInBounds_toArray, List.set_cons_zero, List.set_cons_succ]
  refine wpAnyH_take (i := 10) (oi := { dst := some 39, op := Op.extract (Operand.tmp 29) 1, type := 24, pos := "law.go:18", after := #[{ on := 8, ground := Ground.data }, { on := 11, ground := Ground.gcOnly Departure.lateStores }], guard := none }) (v := ?_) rfl (by kernel_rfl) (by kernel_rfl) (by kernel_rfl) (fun _ _ _ h => h) (Or.inl ⟨by rfl, ?_⟩) (by assumption) ?_
  rotate_left
  · (intro w hSw; (try dsimp only at hSw); go_simp; first | done | with_reducible rfl)
  try simp only [Act.put, List.setIfInBounds_toArray, List.set_cons_zero, List.set_cons_succ]
  refine wpAnyH_take (i := 11) (oi := { dst := some 7, op := Op.assign (Operand.tmp 38), type := 77, pos := "law.go:18", after := #[{ on := 9, ground := Ground.data }, { on := 7, ground := Ground.chain }, { on := 0, ground := Ground.phase }, { on := 1, ground := Ground.phase }, { on := 2, ground := Ground.phase }, { on := 3, ground := Ground.phase }, { on := 4, ground := Ground.phase }, { on := 5, ground := Ground.phase }, { on := 6, ground := Ground.phase }, { on := 7, ground := Ground.phase }, { on := 8, ground := Ground.phase }, { on := 9, ground := Ground.phase }, { on := 10, ground := Ground.textOnly Departure.lateStores }], guard := none }) (v := ?_) rfl (by kernel_rfl) (by kernel_rfl) (by kernel_rfl) (fun _ _ _ h => h) (Or.inl ⟨by rfl, ?_⟩) (by assumption) ?_
  rotate_left
  · (intro w hSw; (try dsimp only at hSw); go_simp; first | done | with_reducible rfl)
  try simp only [Act.put, List.setIfInBounds_toArray, List.set_cons_zero, List.set_cons_succ]
  refine wpAnyH_take (i := 12) (oi := { dst := some 8, op := Op.assign (Operand.tmp 39), type := 24, pos := "law.go:18", after := #[{ on := 10, ground := Ground.data }, { on := 11, ground := Ground.chain }, { on := 0, ground := Ground.phase }, { on := 1, ground := Ground.phase }, { on := 2, ground := Ground.phase }, { on := 3, ground := Ground.phase }, { on := 4, ground := Ground.phase }, { on := 5, ground := Ground.phase }, { on := 6, ground := Ground.phase }, { on := 7, ground := Ground.phase }, { on := 8, ground := Ground.phase }, { on := 9, ground := Ground.phase }, { on := 10, ground := Ground.phase }, { on := 11, ground := Ground.phase }], guard := none }) (v := ?_) rfl (by kernel_rfl) (by kernel_rfl) (by kernel_rfl) (fun _ _ _ h => h) (Or.inl ⟨by rfl, ?_⟩) (by assumption) ?_
  rotate_left
  · (intro w hSw; (try dsimp only at hSw); go_simp; first | done | with_reducible rfl)
  try simp only [Act.put, List.setIfInBounds_toArray, List.set_cons_zero, List.set_cons_succ]
  refine wpAnyH_done (by kernel_rfl) ?_ _

  have h812 : Below w8.heap.size w8 w12 := hN.out.trans (hC.mono hN.out.size)
  have B12 := Lib.hid (B8.out.trans (h812.mono B8.out.size))
  have D12 := Lib.hid (D8.out.keep h812)
  have V12 := Lib.hid (owns_below V8.out h812)
  have X12 := Lib.hid (owns_below X8.out h812)
  have y0 := D12.out.c0
  have y1 := D12.out.c1
  have y2 := D12.out.c2
  have y3 := D12.out.c3
  have z12 := B12.out.size
  clear hHeld hA hB hC NN R11 WA x0 x1 x2 x3 E1 hN h812 B8 D8 V8 X8
  go_wp2_with fail
  refine (ex_size _ _ (Rd.of_own (L := [(1, 5, 2), (0, 1, 1)]) V12.out)).mono ?_
  rintro e w13 ⟨rfl, hD⟩
  have X13 := Lib.hid (owns_below (owns_below X12.out hD) (below_new w13 (.cells #[.int .i64 3, .int .i64 1] 3)))
  have Y13 : Hid ((w13.alloc (.cells #[.int .i64 3, .int .i64 1] 3)).ownsRow w13.heap.size 3 1 (.slice (some ⟨w13.heap.size, 0, none⟩) 2 2) 2 (([3, 1] : List Int).map (Value.int .i64))) := Lib.hid ⟨rfl, Or.inr ⟨w13.heap.size, 2, _, rfl, Nat.le_refl _, heap_alloc_new w13 _, Nat.le_refl _, by unfold maxLen; omega, rfl, rfl⟩⟩
  have HD := Lib.hid hD
  clear hD y0 y1 y2 y3
  go_wp2_with fail
  refine (equalI_any _ _ _ _ [3, 1] _ X13.out Y13.out (by decide)).mono ?_
  rintro e w14 ⟨rfl, hb14⟩
  have BE : Hid (Below w.heap.size w w14) := Lib.hid (B12.out.trans (((HD.out.trans ((below_new _ _).mono HD.out.size)).trans (hb14.mono (by have := HD.out.size; simp; omega))).mono z12))
  clear hb14
  go_wp2
  exact bodyPost_ret (v := .bool true) (by simp [results, Try.results73, go_sem, *]) rfl ⟨rfl, BE.out⟩
end Go.Proofs.Ytmelknodmbdhpaa
namespace Go.Proofs.Ytmelknodmbdhpaa
open Go.ChangeShapes Go.WideShapes Go.ChangeAt Go.RowKit Go.Joins
theorem spot_of_cell {w : World} {a : Addr} {v : Value} (h : w.cell? a = some v) : a.spot = none := by
  unfold World.cell? at h
  split at h
  · split at h
    · cases h
    · rename_i hs
      cases e : a.spot with
      | none => rfl
      | some x => rw [e] at hs; exact absurd rfl hs
  · cases h
theorem spot_of_cells {w : World} {a : Addr} {v : Value} (h : w.cell? (a.add 0) = some v) : ∃ b o : Nat, a = ⟨b, o, none⟩ := by
  have e : a.add 0 = a := by simp [Addr.add]
  rw [e] at h
  have := spot_of_cell h
  obtain ⟨b, o, s⟩ := a
  simp at this
  subst this
  exact ⟨b, o, rfl⟩
theorem Try.cellsDomain : Try.prog.cellsOf 62 = 4 := by kernel_rfl
theorem Try.cellsRanges : Try.prog.cellsOf 40 = 1 := by kernel_rfl
theorem Try.cellsMap : Try.prog.cellsOf 60 = 3 := by kernel_rfl
theorem Try.cellsInt : Try.prog.cellsOf 3 = 1 := by kernel_rfl
theorem wf_i64 {n : Int} (h : (Lit.int .i64 n).wf = true) : I64 n := by
  have := wf64 h
  unfold I64; omega
section
variable {H : Type} {enc : TypeId × Value → H} {w : World} {base : Nat} {held : Bool}
set_option maxRecDepth 100000 in
/-- three ints in a row that read as a range -/
theorem open_cells3 {n : Nat} {cs : List Value} {x : DataW H × List MemPlace} {spare : Nat → Bool} (h : DataW.trod enc Try.prog w base spare held n 23 cs = some x) : ∃ a b c : Int, cs = [.int .i64 a, .int .i64 b, .int .i64 c] ∧ I64 a ∧ I64 b ∧ I64 c := by
  obtain ⟨y0, y1, y2, n', _, hl, h0, h1, h2⟩ := Deep.trod_struct3 Try.underlying23 h
  rw [Try.cellsRange] at hl
  match cs, hl with
  | [c0, c1, c2], _ =>
    obtain ⟨a, e0, _, wa⟩ := DataW.trod_int Try.underlying3 h0
    obtain ⟨b, e1, _, wb⟩ := DataW.trod_int Try.underlying3 h1
    obtain ⟨c, e2, _, wc⟩ := DataW.trod_int Try.underlying3 h2
    simp [Try.cellsInt] at e0 e1 e2
    subst e0 e1 e2
    exact ⟨a, b, c, rfl, wf_i64 wa, wf_i64 wb, wf_i64 wc⟩
set_option maxRecDepth 100000 in
/-- a slice of ranges as data, opened -/
theorem open_ranges {fuel : Nat} {dv : Value} {x : DataW H × List MemPlace} (h : DataW.trod enc Try.prog w base (fun _ => true) held fuel 40 [dv] = some x) :
    ∃ L : List R3, Rd w dv L ∧ Ok3 L ∧ ∀ a n c, dv = .slice a n c → n ≤ c := by
  rcases Deep.open_slice Try.underlying40 h with ⟨e, _⟩ | ⟨a, len, cap, m, n, D, Pl, e, hb, hl, hm, hmm, _, hx⟩
  · simp at e; subst e
    exact ⟨[], ⟨none, 0, rfl, Or.inl rfl⟩, (fun _ hx => by cases hx), fun a n c e => by cases e; exact Nat.le_refl _⟩
  · simp at e; subst e
    have hm' : m = cap := by simpa using hmm
    subst hm'
    have each : ∀ i, i < m → ∃ q : R3, w.cell? (a.add (i * 3)) = some (.int .i64 q.1) ∧ w.cell? (a.add (i * 3 + 1)) = some (.int .i64 q.2.1) ∧ w.cell? (a.add (i * 3 + 2)) = some (.int .i64 q.2.2) ∧ I64 q.1 ∧ I64 q.2.1 ∧ I64 q.2.2 := by
      intro i hi
      obtain ⟨cs, h1, h2⟩ := hx i hi
      rw [Try.cellsRange] at h1
      obtain ⟨_, _, hc⟩ := World.cells?_some h1
      obtain ⟨p, q, r, rfl, i0, i1, i2⟩ := open_cells3 h2
      have e0 := hc 0 (by omega)
      have e1 := hc 1 (by omega)
      have e2 := hc 2 (by omega)
      rw [Deep.add_add] at e0 e1 e2
      exact ⟨(p, q, r), by simpa using e0, by simpa using e1, by simpa using e2, i0, i1, i2⟩
    obtain ⟨q, hq⟩ := Deep.choose_lt each
    have hlen : ((List.range len).map q).length = len := by simp
    refine ⟨(List.range len).map q, ⟨some a, m, by rw [hlen], ?_⟩, fun x hx => ?_, fun a n c e => by cases e; exact hl⟩
    · by_cases z : len = 0
      · exact Or.inl (by rw [hlen]; exact z)
      · right
        have h0 := (hq 0 (by omega)).1
        obtain ⟨b, o, rfl⟩ := spot_of_cells (a := a) (by simpa using h0)
        refine ⟨b, o, rfl, ?_, fun j x hx => ?_⟩
        · have : (⟨b, o, none⟩ : Addr).add (0 * 3) = ⟨b, o, none⟩ := by simp [Addr.add]
          rw [this] at h0
          exact World.block_lt_of_cell? w _ h0
        · have hj : j < len := by have := (List.getElem?_eq_some_iff.1 hx).1; simpa using this
          have ex : x = q j := by
            rw [List.getElem?_map, List.getElem?_range hj] at hx
            simpa using hx.symm
          subst ex
          obtain ⟨c0, c1, c2, _⟩ := hq j (by omega)
          have ad : ∀ k : Nat, (⟨b, o, none⟩ : Addr).add k = ⟨b, o + k, none⟩ := fun k => by
            by_cases k0 : k = 0 <;> simp [Addr.add, k0]
          rw [ad] at c0 c1 c2
          exact ⟨c0, c1, c2⟩
    · obtain ⟨j, hj, rfl⟩ := List.mem_map.1 hx
      have := hq j (by have := List.mem_range.1 hj; omega)
      exact this.2.2.2
set_option maxRecDepth 100000 in
/-- a domain as data, opened -/
theorem open_domain {r : Reach} {b0 : Nat} {v : Value} {d : DataW H} {p : List MemPlace} (hv : Value.okWide Try.prog w r b0 62 v) (h : DataW.Trod enc Try.prog w base (fun _ => true) held 62 v d p) :
    ∃ (dv : Value) (L : List R3) (k s m : Int), v = .agg #[dv, .int .i64 k, .int .i64 s, .int .i64 m] ∧ Rd w dv L ∧ Ok3 L ∧ (∀ a n c, dv = .slice a n c → n ≤ c) ∧ I64 k ∧ I64 s ∧ I64 m := by
  obtain ⟨cs, rfl, hsz⟩ := okWide_struct Try.underlying62 hv
  obtain ⟨c0, c1, c2, c3, rfl⟩ := array4 (hsz.trans Try.cellsDomain)
  obtain ⟨fuel, hf⟩ := h
  obtain ⟨y0, y1, n, _, _, h0, h1⟩ := trod_struct2 Try.underlying62 hf
  simp [Value.cells, Try.cellsRanges, Try.cellsMap] at h0 h1
  obtain ⟨z0, z1, z2, n', _, _, g0, g1, g2⟩ := Deep.trod_struct3 Try.underlying60 h1
  obtain ⟨k, e0, _, wk⟩ := DataW.trod_int Try.underlying3 g0
  obtain ⟨s, e1, _, ws⟩ := DataW.trod_int Try.underlying3 g1
  obtain ⟨m, e2, _, wm⟩ := DataW.trod_int Try.underlying3 g2
  simp [Try.cellsInt] at e0 e1 e2
  subst e0 e1 e2
  obtain ⟨L, hR, hO, hC⟩ := open_ranges h0
  exact ⟨c0, L, k, s, m, rfl, hR, hO, hC, wf_i64 wk, wf_i64 ws, wf_i64 wm⟩
end
theorem Try.laidOutD : laidOutB Try.prog = true := by kernel_rfl
theorem back_argD {H : Type} {enc : TypeId × Value → H} {W W' : World} {v : Value} {d : DataW H} {ps : List MemPlace} (h : DataW.Trod enc Try.prog W 0 (fun _ => true) true 62 v d ps) (hb : Below W.heap.size W W')
    (hlt : ∀ x ∈ ps, x.block < W.heap.size) (sp : Nat → Bool) (hs : ∀ x ∈ ps, sp x.block = true) : DataW.Trod enc Try.prog W' 0 sp true 62 v d ps :=
  WideElems.Trod_stays Try.laidOutD (by kernel_rfl) (of_decide_eq_true (by kernel_rfl)) h (fun x hx => hb.same (hlt x hx)) hs
end Go.Proofs.Ytmelknodmbdhpaa
namespace Go.Proofs.Ytmelknodmbdhpaa
open Go.RowKit
/-- a slice of ints reads as a list -/
def Ri (w : World) (v : Value) (L : List Int) : Prop := ∃ (ao : Option Addr) (cap : Nat), v = .slice ao L.length cap ∧ (L.length = 0 ∨ ∃ b o : Nat, ao = some ⟨b, o, none⟩ ∧ b < w.heap.size ∧
  ∀ (j : Nat) (x : Int), L[j]? = some x → w.cell? ⟨b, o + j, none⟩ = some (.int .i64 x))
theorem Ri.keep {w w' : World} {v : Value} {L : List Int} (r : Ri w v L) (hb : Below w.heap.size w w') : Ri w' v L := by
  obtain ⟨ao, cap, e, h⟩ := r
  refine ⟨ao, cap, e, h.imp id ?_⟩
  rintro ⟨b, o, e, hlt, hc⟩
  exact ⟨b, o, e, Nat.lt_of_lt_of_le hlt hb.size, fun j x hx => (hb.cell (p := ⟨b, o + j, none⟩) hlt).trans (hc j x hx)⟩
def Ok1 (L : List Int) : Prop := ∀ x ∈ L, I64 x
theorem posN_bd (l h s n : Int) : 0 ≤ posN l h s n ∧ posN l h s n ≤ 2000001 := by
  unfold posN
  split
  · rename_i hp
    unfold posB at hp
    obtain ⟨hk, h1, h2, _⟩ := of_decide_eq_true hp
    have b := chk_bounds hk
    have m := magA_nonneg s
    split
    · have := Int.ediv_nonneg (show 0 ≤ h - n by omega) m
      have := Int.ediv_le_self (magA s) (show 0 ≤ h - n by omega)
      omega
    · have := Int.ediv_nonneg (show 0 ≤ n - l by omega) m
      have := Int.ediv_le_self (magA s) (show 0 ≤ n - l by omega)
      omega
  · omega
/-- the first numbers are in their ranges -/
def posOk (L : List R3) (ns : List Int) : Nat → Bool
  | 0 => true
  | j + 1 => posOk L ns j && (match L[j]?, ns[j]? with
    | some x, some n => posB x.1 x.2.1 x.2.2 n
    | _, _ => false)
/-- their position -/
def posP (L : List R3) (ns : List Int) : Nat → Int
  | 0 => 0
  | j + 1 => (match L[j]?, ns[j]? with
    | some x, some n => posP L ns j * siz x.1 x.2.1 x.2.2 + posN x.1 x.2.1 x.2.2 n
    | _, _ => 0)
theorem posOk_next {L : List R3} {ns : List Int} {j : Nat} {x : R3} {n : Int} (hx : L[j]? = some x) (hn : ns[j]? = some n) (h0 : posOk L ns j = true) : posOk L ns (j + 1) = posB x.1 x.2.1 x.2.2 n := by
  unfold posOk; rw [h0, hx, hn]; rfl
theorem posP_next {L : List R3} {ns : List Int} {j : Nat} {x : R3} {n : Int} (hx : L[j]? = some x) (hn : ns[j]? = some n) : posP L ns (j + 1) = posP L ns j * siz x.1 x.2.1 x.2.2 + posN x.1 x.2.1 x.2.2 n := by
  show (match L[j]?, ns[j]? with | some x, some n => _ | _, _ => _) = _
  rw [hx, hn]
theorem posOk_false {L : List R3} {ns : List Int} {j : Nat} (h : posOk L ns j = false) : ∀ d, posOk L ns (j + d) = false
  | 0 => h
  | d + 1 => by
    show posOk L ns (j + d + 1) = false
    unfold posOk
    rw [posOk_false h d]
    rfl
theorem posP_nonneg (L : List R3) (ns : List Int) : ∀ j, 0 ≤ posP L ns j
  | 0 => Int.le_refl _
  | j + 1 => by
    unfold posP
    split
    · rename_i x n _ _
      have h1 := Int.mul_nonneg (posP_nonneg L ns j) (siz_bdA x.1 x.2.1 x.2.2).1
      have h2 := (posN_bd x.1 x.2.1 x.2.2 n).1
      omega
    · omega
theorem posP_one (L : List R3) (ns : List Int) {j : Nat} (hj : j ≤ 1) : posP L ns j ≤ 2000001 := by
  match j, hj with
  | 0, _ => unfold posP; omega
  | 1, _ =>
    unfold posP
    split
    · rename_i x n _ _
      have h2 := (posN_bd x.1 x.2.1 x.2.2 n).2
      unfold posP
      omega
    · omega
/-- an index is in a domain; its position -/
def dposB (L : List R3) (k s h : Int) (ns : List Int) : Bool := decide (dchk L k s h = 0) && (decide (ns.length = L.length) && posOk L ns L.length)
def dposN (L : List R3) (k s h : Int) (ns : List Int) : Int := if dposB L k s h ns = true then posP L ns L.length else 0
theorem dposB_bad {L : List R3} {k s h : Int} {ns : List Int} (c : ¬ dchk L k s h = 0) : dposB L k s h ns = false := by unfold dposB; simp [c]
theorem dposB_len {L : List R3} {k s h : Int} {ns : List Int} (c : ¬ ns.length = L.length) : dposB L k s h ns = false := by unfold dposB; simp [c]
theorem dposB_good {L : List R3} {k s h : Int} {ns : List Int} (c : dchk L k s h = 0) (e : ns.length = L.length) : dposB L k s h ns = posOk L ns L.length := by unfold dposB; simp [c, e]
theorem dposN_no {L : List R3} {k s h : Int} {ns : List Int} (c : dposB L k s h ns = false) : dposN L k s h ns = 0 := by unfold dposN; rw [c]; rfl
theorem dposN_yes {L : List R3} {k s h : Int} {ns : List Int} (c : dposB L k s h ns = true) : dposN L k s h ns = posP L ns L.length := by unfold dposN; rw [if_pos c]
theorem mul_bdQ {a b : Int} (a0 : 0 ≤ a) (a1 : a ≤ 2000001) (b0 : 0 ≤ b) (b1 : b ≤ 2000001) : 0 ≤ a * b ∧ a * b ≤ 4000004000001 := prod_two a b a0 a1 b0 b1
set_option maxRecDepth 100000 in
set_option maxHeartbeats 3200000 in
theorem Dpos_any (v : Value) (L : List R3) (k s h : Int) (iv : Value) (ns : List Int) (w : World) (hr : Rd w v L) (hL : Ok3 L) (hi : Ri w iv ns) (hns : Ok1 ns) :
    Calls Try.prog 64 #[.agg #[v, .int .i64 k, .int .i64 s, .int .i64 h], iv] w fun e w' => e = .returned (.tuple #[.int .i64 (dposN L k s h ns), .bool (dposB L k s h ns)]) ∧ Below w.heap.size w w' := by
  obtain ⟨ao, cap, rfl, hc⟩ := hr
  obtain ⟨ai, ci, rfl, hci⟩ := hi
  have HR : Hid (Rd w (.slice ao L.length cap) L) := Lib.hid ⟨ao, cap, rfl, hc⟩
  have HI : Hid (Ri w (.slice ai ns.length ci) ns) := Lib.hid ⟨ai, ci, rfl, hci⟩
  have HC := Lib.hid hc
  have HIC := Lib.hid hci
  have HL := Lib.hid hL
  have HN := Lib.hid hns
  clear hc hci hL hns
  go_enter Try.func64, Try.ntmps64
  go_wp2_with fail
  refine (Dcheck_any _ L _ _ _ _ (HR.out.keep (below_new _ _)) HL.out).mono ?_
  rintro e w1 ⟨rfl, hb1⟩
  have R1 := resD hb1
  have D1 : Hid (DSt w (.slice ao L.length cap) k s h w1) := Lib.hid ⟨R1.1, R1.2⟩
  clear hb1 R1
  have x0 := D1.out.d.c0
  have CD := Classical.em (dchk L k s h = 0 ∧ ns.length = L.length)
  rcases CD with ⟨c, ln⟩ | cb
  · have c' : (dchk L k s h != 0) = false := by simp [c]
    have l' : ((ns.length : Int) != (L.length : Int)) = false := by simp [ln]
    have CC := Lib.hid c
    have LN := Lib.hid ln
    have rk := Lib.hid (dchk_rank c)
    obtain ⟨b, o, rfl, hb, hcell⟩ := HC.out.resolve_left (by have := rk.out; omega)
    obtain ⟨bi, oi, rfl, hbi, hicell⟩ := HIC.out.resolve_left (by have := rk.out; omega)
    have CL := Lib.hid hcell
    have CI := Lib.hid hicell
    clear c ln hcell hicell HC HIC
    have n2 : (L.length : Int) ≤ 2 := by have := rk.out; omega
    go_wp2_with fail
    go_loopg [6, 7, 8, 9, 10, 25] (L.length + 1) (fun gh v6 _ _ _ _ v25 wr => ∃ j : Nat, v25 = .int .i64 j ∧ v6 = .int .i64 (posP L ns j) ∧ (j ≤ L.length ∧ L.length - j < gh) ∧ Hid (posOk L ns j = true) ∧ Hid (DSt w (.slice (some ⟨b, o, none⟩) L.length cap) k s h wr))
    case atStart => exact ⟨0, rfl, rfl, ⟨by omega, by omega⟩, Lib.hid rfl, D1⟩
    case round =>
      obtain ⟨j, rfl, rfl, ⟨j0, jg⟩, hp, D2⟩ := hrel
      have KG := Lib.hid jg
      clear jg
      by_cases hj : j < L.length
      · have hj2 : j < ns.length := by have := LN.out; omega
        have jw : IntKind.i64.wrap ((j : Int) + 1) = (j : Int) + 1 := IntWalk.i64_in _ (by omega)
        have m2 : (ns.length : Int) ≤ 2 := by have := LN.out; omega
        obtain ⟨x, hx⟩ : ∃ x, L[j]? = some x := ⟨L[j], List.getElem?_eq_getElem hj⟩
        obtain ⟨n, hn⟩ : ∃ n, ns[j]? = some n := ⟨ns[j], List.getElem?_eq_getElem hj2⟩
        obtain ⟨q0, q1, q2⟩ := CL.out j x hx
        have NI := Lib.hid (CI.out j n hn)
        have ox := HL.out x (List.mem_of_getElem? hx)
        have on := HN.out n (List.mem_of_getElem? hn)
        have FX := Lib.hid hx
        have FN := Lib.hid hn
        clear hx hn
        have p0 := (D2.out.below.cell (p := ⟨b, o + j * 3, none⟩) hb).trans q0
        have p1 := (D2.out.below.cell (p := ⟨b, o + j * 3 + 1, none⟩) hb).trans q1
        have p2 := (D2.out.below.cell (p := ⟨b, o + j * 3 + 2, none⟩) hb).trans q2
        clear q0 q1 q2
        go_upto_region 7 with fail
        have D3 := Lib.hid (D2.out.keep (below_new wr (.cells #[.int .i64 x.1, .int .i64 x.2.1, .int .i64 x.2.2] 23)))
        have X3 := B3.new (.int .i64 x.1) (.int .i64 x.2.1) (.int .i64 x.2.2) 23 wr
        clear p0 p1 p2 D2
        generalize wr.alloc (.cells #[.int .i64 x.1, .int .i64 x.2.1, .int .i64 x.2.2] 23) = w3 at *
        generalize wr.heap.size = xb at *
        refine wp_region_held_drew (S := (fun w' => DSt w (.slice (some ⟨b, o, none⟩) L.length cap) k s h w' ∧ B3 xb (.int .i64 x.1) (.int .i64 x.2.1) (.int .i64 x.2.2) w')) (by kernel_rfl) ⟨D3.out.keep (to_drew (Below.refl _ _)), X3.keep (to_drew (Below.refl _ _))⟩ (fun hHeld => ?_)
        clear D3 X3
        obtain ⟨v0, hv0⟩ : ∃ v0, v0 = w3.drew := ⟨_, rfl⟩
        rw [← hv0] at hHeld ⊢
        clear hv0
        refine wpAnyH_take (i := 0) (oi := { dst := some 31, op := Op.load 23 (Operand.tmp 8), type := 23, pos := "domain.go:114", after := #[], guard := none }) (v := ?_) rfl (by kernel_rfl) (by kernel_rfl) (by kernel_rfl) (fun _ _ _ h => h) (Or.inl ⟨by rfl, ?_⟩) (by assumption) ?_
        rotate_left
        · (intro wq hSw; (try dsimp only at hSw); have a0 := hSw.2.c0; have a1 := hSw.2.c1; have a2 := hSw.2.c2; have n0 := (hSw.1.below.cell (p := ⟨bi, oi + j, none⟩) hbi).trans NI.out; clear hSw; go_simp; first | done | with_reducible rfl)
        try simp only [Act.put, List.setIfInBounds_toArray, List.set_cons_zero, List.set_cons_succ]
        refine wpAnyH_take (i := 1) (oi := { dst := some 32, op := Op.move (Operand.tmp 1), type := 48, pos := "domain.go:114", after := #[], guard := none }) (v := ?_) rfl (by kernel_rfl) (by kernel_rfl) (by kernel_rfl) (fun _ _ _ h => h) (Or.inl ⟨by rfl, ?_⟩) (by assumption) ?_
        rotate_left
        · (intro wq hSw; (try dsimp only at hSw); have a0 := hSw.2.c0; have a1 := hSw.2.c1; have a2 := hSw.2.c2; have n0 := (hSw.1.below.cell (p := ⟨bi, oi + j, none⟩) hbi).trans NI.out; clear hSw; go_simp; first | done | with_reducible rfl)
        try simp only [Act.put, List.setIfInBounds_toArray, List.set_cons_zero, List.set_cons_succ]
        refine wpAnyH_take (i := 2) (oi := { dst := some 33, op := Op.move (Operand.tmp 7), type := 3, pos := "domain.go:114", after := #[], guard := none }) (v := ?_) rfl (by kernel_rfl) (by kernel_rfl) (by kernel_rfl) (fun _ _ _ h => h) (Or.inl ⟨by rfl, ?_⟩) (by assumption) ?_
        rotate_left
        · (intro wq hSw; (try dsimp only at hSw); have a0 := hSw.2.c0; have a1 := hSw.2.c1; have a2 := hSw.2.c2; have n0 := (hSw.1.below.cell (p := ⟨bi, oi + j, none⟩) hbi).trans NI.out; clear hSw; go_simp; first | done | with_reducible rfl)
        try simp only [Act.put, List.setIfInBounds_toArray, List.set_cons_zero, List.set_cons_succ]
        refine wpAnyH_take (i := 3) (oi := { dst := some 34, op := Op.indexAddr 48 (Operand.tmp 32) (Operand.tmp 33), type := 0, pos := "domain.go:114", after := #[{ on := 1, ground := Ground.data }, { on := 2, ground := Ground.data }], guard := none }) (v := ?_) rfl (by kernel_rfl) (by kernel_rfl) (by kernel_rfl) (fun _ _ _ h => h) (Or.inl ⟨by rfl, ?_⟩) (by assumption) ?_
        rotate_left
        · (intro wq hSw; (try dsimp only at hSw); have a0 := hSw.2.c0; have a1 := hSw.2.c1; have a2 := hSw.2.c2; have n0 := (hSw.1.below.cell (p := ⟨bi, oi + j, none⟩) hbi).trans NI.out; clear hSw; go_simp; first | done | with_reducible rfl)
        try simp only [Act.put, List.setIfInBounds_toArray, List.set_cons_zero, List.set_cons_succ]
        refine wpAnyH_take (i := 4) (oi := { dst := some 35, op := Op.load 3 (Operand.tmp 34), type := 3, pos := "domain.go:114", after := #[{ on := 3, ground := Ground.data }], guard := none }) (v := ?_) rfl (by kernel_rfl) (by kernel_rfl) (by kernel_rfl) (fun _ _ _ h => h) (Or.inl ⟨by rfl, ?_⟩) (by assumption) ?_
        rotate_left
        · (intro wq hSw; (try dsimp only at hSw); have a0 := hSw.2.c0; have a1 := hSw.2.c1; have a2 := hSw.2.c2; have n0 := (hSw.1.below.cell (p := ⟨bi, oi + j, none⟩) hbi).trans NI.out; clear hSw; go_simp; first | done | with_reducible rfl)
        try simp only [Act.put, List.setIfInBounds_toArray, List.set_cons_zero, List.set_cons_succ]
        refine wpAnyH_ready (rs := [5]) (by kernel_rfl) (by simp) ?_
        refine AllReadyH.cons (o := { dst := some 36, op := Op.call { callee := Callee.value (Operand.func 22), args := #[Operand.tmp 31, Operand.tmp 35], argTypes := #[23, 3] }, type := 29, pos := "domain.go:114", after := #[{ on := 0, ground := Ground.data }, { on := 4, ground := Ground.data }], guard := none }) rfl (fun K hK => ?_) AllReadyH.nil
        go_simp
        refine (Position_any x.1 x.2.1 x.2.2 n _ ox.1 ox.2.1 ox.2.2 on).mono ?_
        rintro e v1 ⟨rfl, hq⟩
        have hq : Below v0.heap.size v0 v1 := ⟨hq.os, hq.tape, hq.output, hq.size, hq.block⟩
        have hS := And.intro (hHeld.1.keep hq) (hHeld.2.keep hq)
        go_wp2_with fail
        refine hK.out _ _ hS (fun hHeld => ?_)
        clear hK K hHeld
        clear hq
        have hHeld := hS
        clear hS
        try simp only [Act.put, List.setIfInBounds_toArray, List.set_cons_zero, List.set_cons_succ]
        refine wpAnyH_take (i := 6) (oi := { dst := some 30, op := Op.move (Operand.tmp 36), type := 29, pos := "domain.go:114", after := #[{ on := 5, ground := Ground.data }], guard := none }) (v := ?_) rfl (by kernel_rfl) (by kernel_rfl) (by kernel_rfl) (fun _ _ _ h => h) (Or.inl ⟨by rfl, ?_⟩) (by assumption) ?_
        rotate_left
        · (intro wq hSw; (try dsimp only at hSw); have a0 := hSw.2.c0; have a1 := hSw.2.c1; have a2 := hSw.2.c2; have n0 := (hSw.1.below.cell (p := ⟨bi, oi + j, none⟩) hbi).trans NI.out; clear hSw; go_simp; first | done | with_reducible rfl)
        try simp only [Act.put, List.setIfInBounds_toArray, List.set_cons_zero, List.set_cons_succ]
        refine wpAnyH_take (i := 7) (oi := { dst := some 37, op := Op.extract (Operand.tmp 30) 0, type := 3, pos := "domain.go:114", after := #[{ on := 6, ground := Ground.data }], guard := none }) (v := ?_) rfl (by kernel_rfl) (by kernel_rfl) (by kernel_rfl) (fun _ _ _ h => h) (Or.inl ⟨by rfl, ?_⟩) (by assumption) ?_
        rotate_left
        · (intro wq hSw; (try dsimp only at hSw); have a0 := hSw.2.c0; have a1 := hSw.2.c1; have a2 := hSw.2.c2; have n0 := (hSw.1.below.cell (p := ⟨bi, oi + j, none⟩) hbi).trans NI.out; clear hSw; go_simp; first | done | with_reducible rfl)
        try simp only [Act.put, List.setIfInBounds_toArray, List.set_cons_zero, List.set_cons_succ]
        refine wpAnyH_take (i := 8) (oi := { dst := some 38, op := Op.extract (Operand.tmp 30) 1, type := 4, pos := "domain.go:114", after := #[{ on := 6, ground := Ground.data }, { on := 9, ground := Ground.gcOnly Departure.lateStores }], guard := none }) (v := ?_) rfl (by kernel_rfl) (by kernel_rfl) (by kernel_rfl) (fun _ _ _ h => h) (Or.inl ⟨by rfl, ?_⟩) (by assumption) ?_
        rotate_left
        · (intro wq hSw; (try dsimp only at hSw); have a0 := hSw.2.c0; have a1 := hSw.2.c1; have a2 := hSw.2.c2; have n0 := (hSw.1.below.cell (p := ⟨bi, oi + j, none⟩) hbi).trans NI.out; clear hSw; go_simp; first | done | with_reducible rfl)
        try simp only [Act.put, List.setIfInBounds_toArray, List.set_cons_zero, List.set_cons_succ]
        refine wpAnyH_take (i := 9) (oi := { dst := some 9, op := Op.assign (Operand.tmp 37), type := 3, pos := "domain.go:114", after := #[{ on := 7, ground := Ground.data }, { on := 5, ground := Ground.chain }, { on := 0, ground := Ground.phase }, { on := 1, ground := Ground.phase }, { on := 2, ground := Ground.phase }, { on := 3, ground := Ground.phase }, { on := 4, ground := Ground.phase }, { on := 5, ground := Ground.phase }, { on := 6, ground := Ground.phase }, { on := 7, ground := Ground.phase }, { on := 8, ground := Ground.textOnly Departure.lateStores }], guard := none }) (v := ?_) rfl (by kernel_rfl) (by kernel_rfl) (by kernel_rfl) (fun _ _ _ h => h) (Or.inl ⟨by rfl, ?_⟩) (by assumption) ?_
        rotate_left
        · (intro wq hSw; (try dsimp only at hSw); have a0 := hSw.2.c0; have a1 := hSw.2.c1; have a2 := hSw.2.c2; have n0 := (hSw.1.below.cell (p := ⟨bi, oi + j, none⟩) hbi).trans NI.out; clear hSw; go_simp; first | done | with_reducible rfl)
        try simp only [Act.put, List.setIfInBounds_toArray, List.set_cons_zero, List.set_cons_succ]
        refine wpAnyH_take (i := 10) (oi := { dst := some 10, op := Op.assign (Operand.tmp 38), type := 4, pos := "domain.go:114", after := #[{ on := 8, ground := Ground.data }, { on := 9, ground := Ground.chain }, { on := 0, ground := Ground.phase }, { on := 1, ground := Ground.phase }, { on := 2, ground := Ground.phase }, { on := 3, ground := Ground.phase }, { on := 4, ground := Ground.phase }, { on := 5, ground := Ground.phase }, { on := 6, ground := Ground.phase }, { on := 7, ground := Ground.phase }, { on := 8, ground := Ground.phase }, { on := 9, ground := Ground.phase }], guard := none }) (v := ?_) rfl (by kernel_rfl) (by kernel_rfl) (by kernel_rfl) (fun _ _ _ h => h) (Or.inl ⟨by rfl, ?_⟩) (by assumption) ?_
        rotate_left
        · (intro wq hSw; (try dsimp only at hSw); have a0 := hSw.2.c0; have a1 := hSw.2.c1; have a2 := hSw.2.c2; have n0 := (hSw.1.below.cell (p := ⟨bi, oi + j, none⟩) hbi).trans NI.out; clear hSw; go_simp; first | done | with_reducible rfl)
        try simp only [Act.put, List.setIfInBounds_toArray, List.set_cons_zero, List.set_cons_succ]
        refine wpAnyH_done (by kernel_rfl) ?_ _
        have D4 := Lib.hid hHeld.1
        have X4 := Lib.hid hHeld.2
        clear hHeld
        cases c : posB x.1 x.2.1 x.2.2 n
        · have O : Hid (posOk L ns (j + 1) = false) := Lib.hid (by rw [posOk_next FX.out FN.out hp.out, c])
          have E : Hid (dposB L k s h ns = false) := Lib.hid (by rw [dposB_good CC.out LN.out]; have := posOk_false O.out (L.length - (j + 1)); rwa [show j + 1 + (L.length - (j + 1)) = L.length by omega] at this)
          have EN : Hid (dposN L k s h ns = 0) := Lib.hid (dposN_no E.out)
          clear c
          go_wp2
          rw [E.out, EN.out]
          exact bodyPost_ret (v := .tuple #[.int .i64 0, .bool false]) (by simp [results, Try.results64, go_sem, *]) rfl ⟨rfl, D4.out.below⟩
        · have O : Hid (posOk L ns (j + 1) = true) := Lib.hid (by rw [posOk_next FX.out FN.out hp.out, c])
          have PN := Lib.hid (posP_next FX.out FN.out)
          have mb := mul_bdQ (posP_nonneg L ns j) (posP_one L ns (show j ≤ 1 by omega)) (siz_bdA x.1 x.2.1 x.2.2).1 (siz_bdA x.1 x.2.1 x.2.2).2
          have nb := posN_bd x.1 x.2.1 x.2.2 n
          have w1 : IntKind.i64.wrap (posP L ns j * siz x.1 x.2.1 x.2.2) = posP L ns j * siz x.1 x.2.1 x.2.2 := IntWalk.i64_in _ (by omega)
          have w2 : IntKind.i64.wrap (posP L ns j * siz x.1 x.2.1 x.2.2 + posN x.1 x.2.1 x.2.2 n) = posP L ns j * siz x.1 x.2.1 x.2.2 + posN x.1 x.2.1 x.2.2 n := IntWalk.i64_in _ (by omega)
          have a0 := X4.out.c0
          have a1 := X4.out.c1
          have a2 := X4.out.c2
          clear c mb nb
          go_wp2_with fail
          refine (Size_any x.1 x.2.1 x.2.2 _ ox.1 ox.2.1 ox.2.2).mono ?_
          rintro e w5 ⟨rfl, hb5⟩
          have D5 := Lib.hid (D4.out.keep hb5)
          clear hb5 D4 X4 a0 a1 a2
          go_wp2_with fail
          go_roundg (L.length - j)
          case measure => exact KG.out
          case rel => exact ⟨j + 1, by go_num, by rw [PN.out], ⟨by omega, by omega⟩, O, D5⟩
      · obtain rfl : j = L.length := by omega
        have E : Hid (dposB L k s h ns = true) := Lib.hid (by rw [dposB_good CC.out LN.out, hp.out])
        have EN : Hid (dposN L k s h ns = posP L ns L.length) := Lib.hid (dposN_yes E.out)
        clear hp
        go_wp2
        rw [E.out, EN.out]
        exact bodyPost_ret (v := .tuple #[.int .i64 (posP L ns L.length), .bool true]) (by simp [results, Try.results64, go_sem, *]) rfl ⟨rfl, D2.out.below⟩
  · have E : Hid (dposB L k s h ns = false) := Lib.hid (by
      by_cases c : dchk L k s h = 0
      · exact dposB_len (fun e => cb ⟨c, e⟩)
      · exact dposB_bad c)
    have EN : Hid (dposN L k s h ns = 0) := Lib.hid (dposN_no E.out)
    by_cases c : dchk L k s h = 0
    · have c' : (dchk L k s h != 0) = false := by simp [c]
      have l' : ((ns.length : Int) != (L.length : Int)) = true := by have : ¬ ns.length = L.length := fun e => cb ⟨c, e⟩; simp; omega
      clear c cb
      go_wp2
      rw [E.out, EN.out]
      exact bodyPost_ret (v := .tuple #[.int .i64 0, .bool false]) (by simp [results, Try.results64, go_sem, *]) rfl ⟨rfl, D1.out.below⟩
    · have c' : (dchk L k s h != 0) = true := by simp [c]
      clear c cb
      go_wp2
      rw [E.out, EN.out]
      exact bodyPost_ret (v := .tuple #[.int .i64 0, .bool false]) (by simp [results, Try.results64, go_sem, *]) rfl ⟨rfl, D1.out.below⟩
set_option maxRecDepth 100000 in
theorem Dhas_any (v : Value) (L : List R3) (k s h : Int) (iv : Value) (ns : List Int) (w : World) (hr : Rd w v L) (hL : Ok3 L) (hi : Ri w iv ns) (hns : Ok1 ns) :
    Calls Try.prog 71 #[.agg #[v, .int .i64 k, .int .i64 s, .int .i64 h], iv] w fun e w' => e = .returned (.bool (dposB L k s h ns)) ∧ Below w.heap.size w w' := by
  obtain ⟨ao, cap, rfl, hc⟩ := hr
  obtain ⟨ai, ci, rfl, hci⟩ := hi
  have HR : Hid (Rd w (.slice ao L.length cap) L) := Lib.hid ⟨ao, cap, rfl, hc⟩
  have HI : Hid (Ri w (.slice ai ns.length ci) ns) := Lib.hid ⟨ai, ci, rfl, hci⟩
  have HC := Lib.hid hc
  have HIC := Lib.hid hci
  have HL := Lib.hid hL
  have HN := Lib.hid hns
  clear hc hci hL hns
  go_enter Try.func71, Try.ntmps71
  go_wp2_with fail
  refine (Dpos_any _ L _ _ _ _ ns _ (HR.out.keep (below_new _ _)) HL.out (HI.out.keep (below_new _ _)) HN.out).mono ?_
  rintro e w1 ⟨rfl, hb1⟩
  have R1 := resD hb1
  clear hb1
  go_wp2
  exact bodyPost_ret (v := .bool (dposB L k s h ns)) (by simp [results, Try.results71, go_sem, *]) rfl ⟨rfl, R1.1⟩
end Go.Proofs.Ytmelknodmbdhpaa
