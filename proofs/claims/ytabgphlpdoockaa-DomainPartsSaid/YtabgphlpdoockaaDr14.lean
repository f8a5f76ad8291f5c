/-
  Part 14: DomM, DomN, DKit, RDA, DQ, DKit2.
-/
import Derived.Test.YtabgphlpdoockaaDr1
import Derived.Test.YtabgphlpdoockaaDr2
import Derived.Test.YtabgphlpdoockaaDr6
import Derived.Test.YtabgphlpdoockaaDr13
import Derived.BigQuiet
import Derived.Carry
import Derived.Deep.CutBlock
import Derived.Deep.DeepCutAuto
import Derived.Deep.DrawnRows
import Derived.Deep.LoopGhost
import Derived.Deep.QuietTactic
import Derived.Deep.RegionHeld3
import Derived.Deep.RegionWith
import Derived.Deep.Slices
import Derived.Deep.Strs
import Derived.Lib.Hide
import Derived.WalkKit
import Derived.WalkLawsBesides
import Derived.WalkSpells
namespace Go.Proofs.Ytabgphlpdoockaa
open Go.RowKit
theorem interF_uniq {l1 h1 s1 l2 h2 s2 a b c a' b' c' : Int} (h : InterF l1 h1 s1 l2 h2 s2 a b c) (h' : InterF l1 h1 s1 l2 h2 s2 a' b' c') : a = a' ∧ b = b' ∧ c = c' :=
  canonS h.1 h'.1 (fun n => (h.2.1 n).trans (h'.2.1 n).symm) (fun lt => by
    have e := canon h.1 h'.1 (fun n => (h.2.1 n).trans (h'.2.1 n).symm)
    exact (h.2.2 lt).trans (h'.2.2 (by omega)).symm)
theorem ex_inter : InterF 0 2 1 1 1 1 1 1 1 := by
  refine ⟨by decide, fun n => ?_, fun h => by omega⟩
  unfold RMem Mem
  have e : magA 1 = 1 := by decide
  rw [e]
  omega
theorem ex_sub {C : List R3} {Ds : List (List R3)} {er : Int} (hm : Meets [(0, 2, 1), (0, 2, 1)] [(1, 1, 1), (1, 1, 1)] C) (h : DSubs [(0, 2, 1), (0, 2, 1)] [(1, 1, 1), (1, 1, 1)] C Ds er) : er = 0 ∧ Ds.length = 4 := by
  have hC : C = [(1, 1, 1), (1, 1, 1)] := by
    have hl : C.length = 2 := hm.1
    match C, hl with
    | [x, y], _ =>
      obtain ⟨A, B, hA, hB, f⟩ := hm.2 0 x rfl
      obtain ⟨A', B', hA', hB', f'⟩ := hm.2 1 y rfl
      simp at hA hB hA' hB'
      subst hA hB hA' hB'
      obtain ⟨e1, e2, e3⟩ := interF_uniq f ex_inter
      obtain ⟨e4, e5, e6⟩ := interF_uniq f' ex_inter
      obtain ⟨x0, x1, x2⟩ := x
      obtain ⟨y0, y1, y2⟩ := y
      simp only at e1 e2 e3 e4 e5 e6
      subst e1 e2 e3 e4 e5 e6
      rfl
  subst hC
  have hP : ∀ (i : Nat) (P : List R3), i < 2 → SubsP [(0, 2, 1), (0, 2, 1)] [(1, 1, 1), (1, 1, 1)] i P → P = [(0, 0, 1), (2, 2, 1)] := by
    rintro i P hi ⟨A, B, l, h, s, hA, hB, f, rfl⟩
    have eA : A = (0, 2, 1) := by
      match i, hi, hA with
      | 0, _, hA => simpa using hA.symm
      | 1, _, hA => simpa using hA.symm
    have eB : B = (1, 1, 1) := by
      match i, hi, hB with
      | 0, _, hB => simpa using hB.symm
      | 1, _, hB => simpa using hB.symm
    subst eA eB
    obtain ⟨e1, e2, e3⟩ := interF_uniq f ex_inter
    subst e1 e2 e3
    decide
  rcases h with ⟨h0, _⟩ | ⟨_, h0, _⟩ | ⟨_, _, PS, hPS, h⟩
  · exact absurd h0 (by decide)
  · exact absurd h0 (by decide)
  · rcases h with ⟨hl, _, e, rfl⟩ | ⟨P, hl, _, hS, hb, _⟩
    · refine ⟨e, ?_⟩
      have hl2 : PS.length = 2 := hl
      match PS, hl2 with
      | [P, Q], _ =>
        have e1 := hP 0 P (by omega) (hPS 0 P rfl)
        have e2 := hP 1 Q (by omega) (hPS 1 Q rfl)
        subst e1 e2
        decide
    · have e := hP PS.length P hl hS
      rw [e] at hb
      exact absurd hb (by decide)
theorem mkR_any (l h s : Int) (w : World) : Calls Try.prog 146 #[.int .i64 l, .int .i64 h, .int .i64 s] w fun e w' => e = .returned (.agg #[.int .i64 l, .int .i64 h, .int .i64 s]) ∧ Below w.heap.size w w' := by
  go_enter Try.func146, Try.ntmps146
  go_wp2
  refine bodyPost_ret (v := .agg #[.int .i64 l, .int .i64 h, .int .i64 s]) (by simp [results, Try.results146, go_sem, *]) rfl ⟨rfl, ?_⟩
  repeat (first | exact below_new _ _ | refine Below.setCell ?_ (by simp; try omega) _)
/-- a block of two ranges -/
theorem two_at (x y : R3) (w : World) (t : TypeId) : At3 (w.alloc (.cells #[.int .i64 x.1, .int .i64 x.2.1, .int .i64 x.2.2, .int .i64 y.1, .int .i64 y.2.1, .int .i64 y.2.2] t)) w.heap.size 0 [x, y] := fun j z hz => by
  match j, hz with
  | 0, hz => simp at hz; subst hz; simp [go_sem]
  | 1, hz => simp at hz; subst hz; simp [go_sem]
theorem two_rd (x y : R3) (w : World) (t : TypeId) : Rd (w.alloc (.cells #[.int .i64 x.1, .int .i64 x.2.1, .int .i64 x.2.2, .int .i64 y.1, .int .i64 y.2.1, .int .i64 y.2.2] t)) (.slice (some ⟨w.heap.size, 0, none⟩) 2 2) [x, y] :=
  ⟨_, 2, rfl, Or.inr ⟨w.heap.size, 0, rfl, by simp, two_at x y w t⟩⟩
theorem ok3_two {x y : R3} (hx : I64 x.1 ∧ I64 x.2.1 ∧ I64 x.2.2) (hy : I64 y.1 ∧ I64 y.2.1 ∧ I64 y.2.2) : Ok3 [x, y] := fun z hz => by
  rcases List.mem_cons.1 hz with rfl | hz
  · exact hx
  · rcases List.mem_cons.1 hz with rfl | hz
    · exact hy
    · cases hz
theorem i64s (a b c : Int) (ha : 0 ≤ a ∧ a ≤ 9) (hb : 0 ≤ b ∧ b ≤ 9) (hc : 0 ≤ c ∧ c ≤ 9) : I64 a ∧ I64 b ∧ I64 c := by unfold I64; omega
theorem exOk1 : Ok3 [(1, 5, 2), (0, 1, 1)] := ok3_two (i64s 1 5 2 (by omega) (by omega) (by omega)) (i64s 0 1 1 (by omega) (by omega) (by omega))
theorem exOk2 : Ok3 [(0, 2, 1), (0, 2, 1)] := ok3_two (i64s 0 2 1 (by omega) (by omega) (by omega)) (i64s 0 2 1 (by omega) (by omega) (by omega))
theorem exOk3 : Ok3 [(1, 1, 1), (1, 1, 1)] := ok3_two (i64s 1 1 1 (by omega) (by omega) (by omega)) (i64s 1 1 1 (by omega) (by omega) (by omega))
theorem ex_of (w : World) (v : Value) (hr : Rd w v [(1, 5, 2), (0, 1, 1)]) : Calls Try.prog 60 #[v] w fun e w' => ∃ (g c : Nat), e = .returned (.tuple #[.agg #[.slice (some ⟨g, 0, none⟩) 2 c, .int .i64 0, .int .i64 0, .int .i64 0], .int .i64 0]) ∧ Below w.heap.size w w' ∧
    Hid (w'.ownsRow w.heap.size 23 3 (.slice (some ⟨g, 0, none⟩) 2 c) 2 (cells3 [(1, 5, 2), (0, 1, 1)])) :=
  (Dof_any v _ w hr exOk1).mono fun e w' ⟨rv, er, he, hb, hF⟩ => by
    have e0 : ofErr [(1, 5, 2), (0, 1, 1)] = 0 := by decide
    have e1 : ([(1, 5, 2), (0, 1, 1)] : List R3).map upR = [(1, 5, 2), (0, 1, 1)] := by decide
    rw [e0, e1] at hF
    obtain ⟨rfl, h⟩ := hF.out
    rcases h with ⟨_, own⟩ | ⟨h, _⟩
    · obtain ⟨a, c, rfl⟩ := owns_slice own
      obtain ⟨g, rfl⟩ := owns_addr own (by decide)
      exact ⟨g, c, he, hb, Lib.hid own⟩
    · exact absurd rfl h
theorem ex_nth (w : World) (v : Value) (hr : Rd w v [(1, 5, 2), (0, 1, 1)]) : Calls Try.prog 62 #[.agg #[v, .int .i64 0, .int .i64 0, .int .i64 0], .int .i64 3] w fun e w' => ∃ (g c : Nat), e = .returned (.tuple #[.slice (some ⟨g, 0, none⟩) 2 c, .int .i64 0]) ∧ Below w.heap.size w w' ∧
    Hid (w'.ownsRow w.heap.size 3 1 (.slice (some ⟨g, 0, none⟩) 2 c) 2 (([3, 1] : List Int).map (Value.int .i64))) :=
  (Dnth_any v _ 0 0 0 3 w hr exOk1).mono fun e w' ⟨rv, er, he, hb, hF⟩ => by
    have e0 : dnthE [(1, 5, 2), (0, 1, 1)] 0 0 0 3 = 0 := by decide
    have e1 : idxL [(1, 5, 2), (0, 1, 1)] 3 = [3, 1] := by decide
    rw [e0, e1] at hF
    obtain ⟨rfl, h⟩ := hF.out
    rcases h with ⟨_, own⟩ | ⟨h, _⟩
    · obtain ⟨a, c, rfl⟩ := owns_slice own
      obtain ⟨g, rfl⟩ := owns_addr own (by decide)
      exact ⟨g, c, he, hb, Lib.hid own⟩
    · exact absurd rfl h
theorem ex_subtract (w : World) (v v' : Value) (hr : Rd w v [(0, 2, 1), (0, 2, 1)]) (hr' : Rd w v' [(1, 1, 1), (1, 1, 1)]) (hcap : ∀ a n c, v = .slice a n c → n ≤ c) : Calls Try.prog 84 #[.agg #[v, .int .i64 0, .int .i64 0, .int .i64 0], .agg #[v', .int .i64 0, .int .i64 0, .int .i64 0]] w fun e w' => ∃ (a : Option Addr) (c : Nat), e = .returned (.tuple #[.slice a 4 c, .int .i64 0]) ∧ Below w.heap.size w w' :=
  (Dsub_any v _ 0 0 0 v' _ 0 0 0 w hr exOk2 hr' exOk3 hcap).mono fun e w' ⟨rv, er, he, hb, hF⟩ => by
    have e0 : dboth [(0, 2, 1), (0, 2, 1)] 0 0 0 [(1, 1, 1), (1, 1, 1)] 0 0 0 = 0 := by decide
    rcases hF.out with ⟨h, _⟩ | ⟨_, C, Ds, hm, hs, us, eu, own, _⟩
    · exact absurd e0 h
    · obtain ⟨rfl, e4⟩ := ex_sub hm hs
      obtain ⟨a, c, rfl⟩ := owns_slice own
      rw [eu, e4] at he
      exact ⟨a, c, he, hb⟩
theorem ex_size (w : World) (v : Value) (hr : Rd w v [(1, 5, 2), (0, 1, 1)]) : Calls Try.prog 69 #[.agg #[v, .int .i64 0, .int .i64 0, .int .i64 0]] w fun e w' => e = .returned (.int .i64 6) ∧ Below w.heap.size w w' := by
  have e0 : dsiz [(1, 5, 2), (0, 1, 1)] 0 0 0 = 6 := by decide
  have h := Dsize_any v _ 0 0 0 w hr exOk1
  rw [e0] at h; exact h
set_option maxRecDepth 100000 in
set_option maxHeartbeats 6400000 in
theorem awake2_any (w : World) : Calls Try.prog 73 #[] w fun e w' => e = .returned (.bool true) ∧ Below w.heap.size w w' := by
  go_enter Try.func73, Try.ntmps73
  go_wp2_with fail
  refine (mkR_any 1 5 2 _).mono ?_
  rintro e w1 ⟨rfl, hb1⟩
  go_wp2_with fail
  refine (mkR_any 0 1 1 _).mono ?_
  rintro e w2 ⟨rfl, hb2⟩
  have B2 := Lib.hid (hb1.trans (hb2.mono hb1.size))
  clear hb1 hb2
  have R2 := Lib.hid (two_rd (1, 5, 2) (0, 1, 1) w2 23)
  have B3 : Hid (Below w.heap.size w (w2.alloc (.cells #[.int .i64 1, .int .i64 5, .int .i64 2, .int .i64 0, .int .i64 1, .int .i64 1] 23))) := Lib.hid (B2.out.trans ((below_new _ _).mono B2.out.size))
  go_wp2_with fail
  refine (ex_of _ _ R2.out).mono ?_
  rintro e w4 ⟨gv, cv, rfl, hb4, hV⟩
  have B4 := Lib.hid (B3.out.trans (hb4.mono B3.out.size))
  have NB := Lib.hid (below_new w4 (.cells #[.slice (some ⟨gv, 0, none⟩) 2 cv, .int .i64 0, .int .i64 0, .int .i64 0] 62))
  have D5 := Lib.hid (Blk.new (.slice (some ⟨gv, 0, none⟩) 2 cv) (.int .i64 0) (.int .i64 0) (.int .i64 0) 62 w4)
  have V5 := Lib.hid (owns_below hV.out NB.out)
  have B5 := Lib.hid (B4.out.trans (NB.out.mono B4.out.size))
  clear hV hb4 B3 R2 B2
  go_upto_region 3 with fail
  generalize w4.alloc (.cells #[.slice (some ⟨gv, 0, none⟩) 2 cv, .int .i64 0, .int .i64 0, .int .i64 0] 62) = w5 at *
  generalize w4.heap.size = db at *
  have x0 := D5.out.c0
  have x1 := D5.out.c1
  have x2 := D5.out.c2
  have x3 := D5.out.c3
  go_wp2_with fail
  refine (ex_nth _ _ (Rd.of_own (L := [(1, 5, 2), (0, 1, 1)]) V5.out)).mono ?_
  rintro e w6 ⟨gx, cx, rfl, hb6, hX⟩
  have B6 := Lib.hid (B5.out.trans (hb6.mono B5.out.size))
  have D6 := Lib.hid (D5.out.keep hb6)
  have V6 := Lib.hid (owns_below V5.out hb6)
  have X6 := hX
  clear hX hb6 V5 D5 B5 B4 NB x0 x1 x2 x3
  go_wp2_with fail
  refine (mkR_any 0 2 1 _).mono ?_
  rintro e w7 ⟨rfl, hb7⟩
  go_wp2_with fail
  refine (mkR_any 0 2 1 _).mono ?_
  rintro e w8 ⟨rfl, hb8⟩
  have h68 := hb7.trans (hb8.mono hb7.size)
  have B8 := Lib.hid (B6.out.trans (h68.mono B6.out.size))
  have D8 := Lib.hid (D6.out.keep h68)
  have V8 := Lib.hid (owns_below V6.out h68)
  have X8 := Lib.hid (owns_below X6.out h68)
  have NB := Lib.hid (below_new w8 (.cells #[.int .i64 0, .int .i64 2, .int .i64 1, .int .i64 0, .int .i64 2, .int .i64 1] 23))
  have W9 := Lib.hid (two_rd (0, 2, 1) (0, 2, 1) w8 23)
  clear hb7 hb8 h68 B6 D6 V6 X6
  have z8 := B8.out.size
  have EE : Hid (Blk (w8.heap.size + 1) (.slice (some ⟨w8.heap.size, 0, none⟩) 2 2) (.int .i64 0) (.int .i64 0) (.int .i64 0) ((w8.alloc (.cells #[.int .i64 0, .int .i64 2, .int .i64 1, .int .i64 0, .int .i64 2, .int .i64 1] 23)).alloc (.cells #[.slice (some ⟨w8.heap.size, 0, none⟩) 2 2, .int .i64 0, .int .i64 0, .int .i64 0] 62))) := Lib.hid (by
    have e : (w8.alloc (.cells #[.int .i64 0, .int .i64 2, .int .i64 1, .int .i64 0, .int .i64 2, .int .i64 1] 23)).heap.size = w8.heap.size + 1 := by simp
    rw [← e]; exact Blk.new _ _ _ _ _ _)
  have hN : Hid (Below w8.heap.size w8 ((w8.alloc (.cells #[.int .i64 0, .int .i64 2, .int .i64 1, .int .i64 0, .int .i64 2, .int .i64 1] 23)).alloc (.cells #[.slice (some ⟨w8.heap.size, 0, none⟩) 2 2, .int .i64 0, .int .i64 0, .int .i64 0] 62))) := Lib.hid (NB.out.trans ((below_new _ _).mono NB.out.size))
  have WA := Lib.hid (W9.out.keep (below_new (w8.alloc (.cells #[.int .i64 0, .int .i64 2, .int .i64 1, .int .i64 0, .int .i64 2, .int .i64 1] 23)) (.cells #[.slice (some ⟨w8.heap.size, 0, none⟩) 2 2, .int .i64 0, .int .i64 0, .int .i64 0] 62)))
  go_upto_region 5 with fail
  generalize (w8.alloc (.cells #[.int .i64 0, .int .i64 2, .int .i64 1, .int .i64 0, .int .i64 2, .int .i64 1] 23)).alloc (.cells #[.slice (some ⟨w8.heap.size, 0, none⟩) 2 2, .int .i64 0, .int .i64 0, .int .i64 0] 62) = wA at *
  have E1 := EE
  have x0 := E1.out.c0
  have x1 := E1.out.c1
  have x2 := E1.out.c2
  have x3 := E1.out.c3
  clear NB W9 EE
  refine wp_region_held_drew (S := (fun w' => w'.cell? ⟨w8.heap.size + 1, 0, none⟩ = some (.slice (some ⟨w8.heap.size, 0, none⟩) 2 2) ∧ w'.cell? ⟨w8.heap.size + 1, 1, none⟩ = some (.int .i64 0) ∧ w'.cell? ⟨w8.heap.size + 1, 2, none⟩ = some (.int .i64 0) ∧ w'.cell? ⟨w8.heap.size + 1, 3, none⟩ = some (.int .i64 0))) (by kernel_rfl) ?_ (fun hHeld => ?_)
  · first | exact hHeld | exact ⟨x0, x1, x2, x3⟩ | (obtain ⟨q0, q1, q2, q3⟩ := hHeld; refine ⟨?_, ?_, ?_, ?_⟩ <;> simp [go_sem, *]; done) | go_keep
  refine wpAnyH_take (i := 0) (oi := { dst := some 30, op := Op.load 62 (Operand.tmp 6), type := 62, pos := "law.go:18", after := #[], guard := none }) (v := ?_) rfl (by kernel_rfl) (by kernel_rfl) (by kernel_rfl) (fun _ _ _ h => h) (Or.inl ⟨by rfl, ?_⟩) (by assumption) ?_
  rotate_left
  · (intro w hSw; (try dsimp only at hSw); go_simp; first | done | with_reducible rfl)
  try simp only [Act.put, List.setIfInBounds_toArray, List.set_cons_zero, List.set_cons_succ]
  refine wpAnyH_take (i := 1) (oi := { dst := some 31, op := Op.move (Operand.tmp 1), type := 138, pos := "law.go:18", after := #[], guard := none }) (v := ?_) rfl (by kernel_rfl) (by kernel_rfl) (by kernel_rfl) (fun _ _ _ h => h) (Or.inl ⟨by rfl, ?_⟩) (by assumption) ?_
  rotate_left
  · (intro w hSw; (try dsimp only at hSw); go_simp; first | done | with_reducible rfl)
  try simp only [Act.put, List.setIfInBounds_toArray, List.set_cons_zero, List.set_cons_succ]
  refine wpAnyH_take (i := 3) (oi := { dst := some 33, op := Op.move (Operand.tmp 1), type := 138, pos := "law.go:18", after := #[], guard := none }) (v := ?_) rfl (by kernel_rfl) (by kernel_rfl) (by kernel_rfl) (fun _ _ _ h => h) (Or.inl ⟨by rfl, ?_⟩) (by assumption) ?_
  rotate_left
  · (intro w hSw; (try dsimp only at hSw); go_simp; first | done | with_reducible rfl)
  try simp only [Act.put, List.setIfInBounds_toArray, List.set_cons_zero, List.set_cons_succ]
  refine wpAnyH_ready (rs := [2]) (by kernel_rfl) (by simp) ?_
  refine AllReadyH.cons (o := { dst := some 32, op := Op.call { callee := Callee.value (Operand.tmp 31), args := #[Operand.const (Value.int IntKind.i64 1), Operand.const (Value.int IntKind.i64 1), Operand.const (Value.int IntKind.i64 1)], argTypes := #[3, 3, 3] }, type := 23, pos := "law.go:18", after := #[{ on := 1, ground := Ground.data }], guard := none }) rfl (fun K hK => ?_) AllReadyH.nil
  go_simp
  refine (mkR_any 1 1 1 _).mono ?_
  rintro e w10 ⟨rfl, hb10⟩
  have hA : Below wA.heap.size wA w10 := ⟨hb10.os, hb10.tape, hb10.output, hb10.size, hb10.block⟩
  clear hb10
  go_wp2_with fail
  refine hK.out _ _ ?_ (fun hHeld2 => ?_)
  · exact ⟨(hA.cell (p := ⟨w8.heap.size + 1, 0, none⟩) E1.out.size).trans x0, (hA.cell (p := ⟨w8.heap.size + 1, 1, none⟩) E1.out.size).trans x1, (hA.cell (p := ⟨w8.heap.size + 1, 2, none⟩) E1.out.size).trans x2, (hA.cell (p := ⟨w8.heap.size + 1, 3, none⟩) E1.out.size).trans x3⟩
  clear hK K hHeld
  have hHeld := hHeld2
  clear hHeld2
  try simp only [Act.put, List.setIfInBounds_toArray, List.set_cons_zero, List.set_cons_succ]
  refine wpAnyH_ready (rs := [4]) (by kernel_rfl) (by simp) ?_
  refine AllReadyH.cons (o := { dst := some 34, op := Op.call { callee := Callee.value (Operand.tmp 33), args := #[Operand.const (Value.int IntKind.i64 1), Operand.const (Value.int IntKind.i64 1), Operand.const (Value.int IntKind.i64 1)], argTypes := #[3, 3, 3] }, type := 23, pos := "law.go:18", after := #[{ on := 3, ground := Ground.data }, { on := 2, ground := Ground.chain }], guard := none }) rfl (fun K hK => ?_) AllReadyH.nil
  go_simp
  refine (mkR_any 1 1 1 _).mono ?_
  rintro e w11 ⟨rfl, hb11⟩
  have hB : Below wA.heap.size wA w11 := hA.trans (hb11.mono hA.size)
  have NN := Lib.hid (below_new w11 (.cells #[.int .i64 1, .int .i64 1, .int .i64 1, .int .i64 1, .int .i64 1, .int .i64 1] 23))
  have R11 := Lib.hid (two_rd (1, 1, 1) (1, 1, 1) w11 23)
  clear hb11
  go_wp2_with fail
  refine hK.out _ _ ?_ (fun hHeld4 => ?_)
  · exact ⟨(hB.cell (p := ⟨w8.heap.size + 1, 0, none⟩) E1.out.size).trans x0, (hB.cell (p := ⟨w8.heap.size + 1, 1, none⟩) E1.out.size).trans x1, (hB.cell (p := ⟨w8.heap.size + 1, 2, none⟩) E1.out.size).trans x2, (hB.cell (p := ⟨w8.heap.size + 1, 3, none⟩) E1.out.size).trans x3⟩
  clear hK K hHeld
  have hHeld := hHeld4
  clear hHeld4
  try simp only [Act.put, List.setIfInBounds_toArray, List.set_cons_zero, List.set_cons_succ]
  refine wpAnyH_ready (rs := [5]) (by kernel_rfl) (by simp) ?_
  refine AllReadyH.cons (o := { dst := some 35, op := Op.buildSlice 40 2 #[(0, Operand.tmp 32), (1, Operand.tmp 34)], type := 40, pos := "law.go:18", after := #[{ on := 2, ground := Ground.data }, { on := 4, ground := Ground.data }], guard := none }) rfl (fun K hK => ?_) AllReadyH.nil
  go_simp
  refine hK.out _ _ ?_ (fun hHeld5 => ?_)
  · first | exact hHeld | exact ⟨x0, x1, x2, x3⟩ | (obtain ⟨q0, q1, q2, q3⟩ := hHeld; refine ⟨?_, ?_, ?_, ?_⟩ <;> simp [go_sem, *]; done) | go_keep
  clear hK K hHeld
  have hHeld := hHeld5
  clear hHeld5
  try simp only [Act.put, List.setIfInBounds_toArray, List.set_cons_zero, List.set_cons_succ]
  refine wpAnyH_take (i := 6) (oi := { dst := some 36, op := Op.build 62 #[(0, Operand.tmp 35)], type := 62, pos := "law.go:18", after := #[{ on := 5, ground := Ground.data }], guard := none }) (v := ?_) rfl (by kernel_rfl) (by kernel_rfl) (by kernel_rfl) (fun _ _ _ h => h) (Or.inl ⟨by rfl, ?_⟩) (by assumption) ?_
  rotate_left
  · (intro w hSw; (try dsimp only at hSw); go_simp; first | done | with_reducible rfl)
  try simp only [Act.put, List.setIfInBounds_toArray, List.set_cons_zero, List.set_cons_succ]
  refine wpAnyH_ready (rs := [7]) (by kernel_rfl) (by simp) ?_
  refine AllReadyH.cons (o := { dst := some 37, op := Op.call { callee := Callee.value (Operand.func 84), args := #[Operand.tmp 30, Operand.tmp 36], argTypes := #[62, 62] }, type := 78, pos := "law.go:18", after := #[{ on := 0, ground := Ground.data }, { on := 6, ground := Ground.data }, { on := 4, ground := Ground.chain }], guard := none }) rfl (fun K hK => ?_) AllReadyH.nil
  go_simp
  refine (ex_subtract _ _ _ (WA.out.keep (hB.trans (NN.out.mono hB.size))) R11.out (fun a n c e => by cases e; exact Nat.le_refl _)).mono ?_
  rintro e w12 ⟨la, lc, rfl, hb12⟩
  have hC : Below wA.heap.size wA w12 := (hB.trans (NN.out.mono hB.size)).trans (hb12.mono (by have := hB.size; have := NN.out.size; omega))
  clear hb12
  go_wp2_with fail
  refine hK.out _ _ ?_ (fun hHeld7 => ?_)
  · exact ⟨(hC.cell (p := ⟨w8.heap.size + 1, 0, none⟩) E1.out.size).trans x0, (hC.cell (p := ⟨w8.heap.size + 1, 1, none⟩) E1.out.size).trans x1, (hC.cell (p := ⟨w8.heap.size + 1, 2, none⟩) E1.out.size).trans x2, (hC.cell (p := ⟨w8.heap.size + 1, 3, none⟩) E1.out.size).trans x3⟩
  clear hK K hHeld
  have hHeld := hHeld7
  clear hHeld7
  try simp only [Act.put, List.setIfInBounds_toArray, List.set_cons_zero, List.set_cons_succ]
  refine wpAnyH_take (i := 8) (oi := { dst := some 29, op := Op.move (Operand.tmp 37), type := 78, pos := "law.go:18", after := #[{ on := 7, ground := Ground.data }], guard := none }) (v := ?_) rfl (by kernel_rfl) (by kernel_rfl) (by kernel_rfl) (fun _ _ _ h => h) (Or.inl ⟨by rfl, ?_⟩) (by assumption) ?_
  rotate_left
  · (intro w hSw; (try dsimp only at hSw); go_simp; first | done | with_reducible rfl)
  try simp only [Act.put, List.setIfInBounds_toArray, List.set_cons_zero, List.set_cons_succ]
  refine wpAnyH_take (i := 9) (oi := { dst := some 38, op := Op.extract (Operand.tmp 29) 0, type := 77, pos := "law.go:18", after := #[{ on := 8, ground := Ground.data }], guard := none }) (v := ?_) rfl (by kernel_rfl) (by kernel_rfl) (by kernel_rfl) (fun _ _ _ h => h) (Or.inl ⟨by rfl, ?_⟩) (by assumption) ?_
  rotate_left
  · (intro w hSw; (try dsimp only at hSw); go_simp; first | done | with_reducible rfl)
  try simp only [Act.put, List.setIfInBounds_toArray, List.set_cons_zero, List.set_cons_succ]
  refine wpAnyH_take (i := 10) (oi := { dst := some 39, op := Op.extract (Operand.tmp 29) 1, type := 24, pos := "law.go:18", after := #[{ on := 8, ground := Ground.data }, { on := 11, ground := Ground.gcOnly Departure.lateStores }], guard := none }) (v := ?_) rfl (by kernel_rfl) (by kernel_rfl) (by kernel_rfl) (fun _ _ _ h => h) (Or.inl ⟨by rfl, ?_⟩) (by assumption) ?_
  rotate_left
  · (intro w hSw; (try dsimp only at hSw); go_simp; first | done | with_reducible rfl)
  try simp only [Act.put, List.setIfInBounds_toArray, List.set_cons_zero, List.set_cons_succ]
  refine wpAnyH_take (i := 11) (oi := { dst := some 7, op := Op.assign (Operand.tmp 38), type := 77, pos := "law.go:18", after := #[{ on := 9, ground := Ground.data }, { on := 7, ground := Ground.chain }, { on := 0, ground := Ground.phase }, { on := 1, ground := Ground.phase }, { on := 2, ground := Ground.phase }, { on := 3, ground := Ground.phase }, { on := 4, ground := Ground.phase }, { on := 5, ground := Ground.phase }, { on := 6, ground := Ground.phase }, { on := 7, ground := Ground.phase }, { on := 8, ground := Ground.phase }, { on := 9, ground := Ground.phase }, { on := 10, ground := Ground.textOnly Departure.lateStores }], guard := none }) (v := ?_) rfl (by kernel_rfl) (by kernel_rfl) (by kernel_rfl) (fun _ _ _ h => h) (Or.inl ⟨by rfl, ?_⟩) (by assumption) ?_
  rotate_left
  · (intro w hSw; (try dsimp only at hSw); go_simp; first | done | with_reducible rfl)
  try simp only [Act.put, List.setIfInBounds_toArray, List.set_cons_zero, List.set_cons_succ]
  refine wpAnyH_take (i := 12) (oi := { dst := some 8, op := Op.assign (Operand.tmp 39), type := 24, pos := "law.go:18", after := #[{ on := 10, ground := Ground.data }, { on := 11, ground := Ground.chain }, { on := 0, ground := Ground.phase }, { on := 1, ground := Ground.phase }, { on := 2, ground := Ground.phase }, { on := 3, ground := Ground.phase }, { on := 4, ground := Ground.phase }, { on := 5, ground := Ground.phase }, { on := 6, ground := Ground.phase }, { on := 7, ground := Ground.phase }, { on := 8, ground := Ground.phase }, { on := 9, ground := Ground.phase }, { on := 10, ground := Ground.phase }, { on := 11, ground := Ground.phase }], guard := none }) (v := ?_) rfl (by kernel_rfl) (by kernel_rfl) (by kernel_rfl) (fun _ _ _ h => h) (Or.inl ⟨by rfl, ?_⟩) (by assumption) ?_
  rotate_left
  · (intro w hSw; (try dsimp only at hSw); go_simp; first | done | with_reducible rfl)
  try simp only [Act.put, List.setIfInBounds_toArray, List.set_cons_zero, List.set_cons_succ]
  refine wpAnyH_done (by kernel_rfl) ?_ _

  have h812 : Below w8.heap.size w8 w12 := hN.out.trans (hC.mono hN.out.size)
  have B12 := Lib.hid (B8.out.trans (h812.mono B8.out.size))
  have D12 := Lib.hid (D8.out.keep h812)
  have V12 := Lib.hid (owns_below V8.out h812)
  have X12 := Lib.hid (owns_below X8.out h812)
  have y0 := D12.out.c0
  have y1 := D12.out.c1
  have y2 := D12.out.c2
  have y3 := D12.out.c3
  have z12 := B12.out.size
  clear hHeld hA hB hC NN R11 WA x0 x1 x2 x3 E1 hN h812 B8 D8 V8 X8
  go_wp2_with fail
  refine (ex_size _ _ (Rd.of_own (L := [(1, 5, 2), (0, 1, 1)]) V12.out)).mono ?_
  rintro e w13 ⟨rfl, hD⟩
  have X13 := Lib.hid (owns_below (owns_below X12.out hD) (below_new w13 (.cells #[.int .i64 3, .int .i64 1] 3)))
  have Y13 : Hid ((w13.alloc (.cells #[.int .i64 3, .int .i64 1] 3)).ownsRow w13.heap.size 3 1 (.slice (some ⟨w13.heap.size, 0, none⟩) 2 2) 2 (([3, 1] : List Int).map (Value.int .i64))) := Lib.hid ⟨rfl, Or.inr ⟨w13.heap.size, 2, _, rfl, Nat.le_refl _, heap_alloc_new w13 _, Nat.le_refl _, by unfold maxLen; omega, rfl, rfl⟩⟩
  have HD := Lib.hid hD
  clear hD y0 y1 y2 y3
  go_wp2_with fail
  refine (equalI_any _ _ _ _ [3, 1] _ X13.out Y13.out (by decide)).mono ?_
  rintro e w14 ⟨rfl, hb14⟩
  have BE : Hid (Below w.heap.size w w14) := Lib.hid (B12.out.trans (((HD.out.trans ((below_new _ _).mono HD.out.size)).trans (hb14.mono (by have := HD.out.size; simp; omega))).mono z12))
  clear hb14
  go_wp2
  exact bodyPost_ret (v := .bool true) (by simp [results, Try.results73, go_sem, *]) rfl ⟨rfl, BE.out⟩
end Go.Proofs.Ytabgphlpdoockaa
namespace Go.Proofs.Ytabgphlpdoockaa
open Go.RowKit
theorem reqB_iff {a b c a' b' c' : Int} : reqB a b c a' b' c' = true ↔ a = a' ∧ b = b' ∧ c = c' := by unfold reqB; simp
theorem reqB_ne {x y : R3} (h : ¬ x = y) : reqB x.1 x.2.1 x.2.2 y.1 y.2.1 y.2.2 = false := by
  cases e : reqB x.1 x.2.1 x.2.2 y.1 y.2.1 y.2.2
  · rfl
  · obtain ⟨e1, e2, e3⟩ := reqB_iff.1 e
    exact absurd (Prod.ext e1 (Prod.ext e2 e3)) h
set_option maxRecDepth 100000 in
set_option maxHeartbeats 3200000 in
/-- slices.Equal over ranges -/
theorem equalR_any (v1 v2 : Value) (L M : List R3) (w : World) (h1 : Rd w v1 L) (h2 : Rd w v2 M) (hn : L.length ≤ 5000) :
    Calls Try.prog 51 #[v1, v2] w fun e w' => e = .returned (.bool (decide (L = M))) ∧ Below w.heap.size w w' := by
  obtain ⟨a1, c1, rfl, h1⟩ := h1
  obtain ⟨a2, c2, rfl, h2⟩ := h2
  by_cases hl : L.length = M.length
  · by_cases h0 : L.length = 0
    · have m0 : M.length = 0 := by omega
      have e : decide (L = M) = true := by rw [List.eq_nil_of_length_eq_zero h0, List.eq_nil_of_length_eq_zero m0]; rfl
      rw [e, h0, m0]
      exact equal_none a1 a2 c1 c2 w
    · obtain ⟨b1, o1, rfl, z1, H1⟩ := h1.resolve_left h0
      obtain ⟨b2, o2, rfl, z2, H2⟩ := h2.resolve_left (by omega)
      have A1 := Lib.hid H1
      have A2 := Lib.hid H2
      have HL := Lib.hid hl
      rw [← hl]
      clear H1 H2 h1 h2 h0 hl
      go_enter Try.func51, Try.ntmps51
      go_wp2_with fail
      go_loopg [5, 13] (L.length + 1) (fun gh _ v13 wr => ∃ k : Nat, v13 = .int .i64 k ∧ (k ≤ L.length ∧ L.length - k < gh) ∧ Hid (L.take k = M.take k) ∧ Hid (Below w.heap.size w wr))
      case atStart => exact ⟨0, rfl, ⟨by omega, by omega⟩, Lib.hid rfl, Lib.hid (Below.refl _ _)⟩
      case round =>
        obtain ⟨k, rfl, ⟨k0, kg⟩, TK, HB⟩ := hrel
        have KG := Lib.hid kg
        clear kg
        by_cases hk : k < L.length
        · obtain ⟨x, hx⟩ : ∃ x, L[k]? = some x := ⟨L[k], List.getElem?_eq_getElem hk⟩
          obtain ⟨y, hy⟩ : ∃ y, M[k]? = some y := ⟨M[k]'(by have := HL.out; omega), List.getElem?_eq_getElem _⟩
          obtain ⟨p0, p1, p2⟩ := A1.out k x hx
          obtain ⟨q0, q1, q2⟩ := A2.out k y hy
          have p0 := (HB.out.cell (p := ⟨b1, o1 + k * 3, none⟩) z1).trans p0
          have p1 := (HB.out.cell (p := ⟨b1, o1 + k * 3 + 1, none⟩) z1).trans p1
          have p2 := (HB.out.cell (p := ⟨b1, o1 + k * 3 + 2, none⟩) z1).trans p2
          have q0 := (HB.out.cell (p := ⟨b2, o2 + k * 3, none⟩) z2).trans q0
          have q1 := (HB.out.cell (p := ⟨b2, o2 + k * 3 + 1, none⟩) z2).trans q1
          have q2 := (HB.out.cell (p := ⟨b2, o2 + k * 3 + 2, none⟩) z2).trans q2
          by_cases e : x = y
          · have T : Hid (L.take (k + 1) = M.take (k + 1)) := Lib.hid (by rw [List.take_add_one, List.take_add_one, TK.out, hx, hy, e])
            subst e
            obtain ⟨a, b, c⟩ := x
            have ne := neq_range a b c a b c
            rw [reqB_self] at ne
            clear hx hy
            go_wp2_with fail
            go_quiet (fail)
            go_wp2
            go_roundg (L.length - k)
            case measure => exact KG.out
            case rel => exact ⟨k + 1, by go_num, ⟨by omega, by omega⟩, T, Lib.hid (HB.out.trans (below_drewN (Below.refl _ _) _))⟩
          · have E : Hid (decide (L = M) = false) := Lib.hid (by
              refine decide_eq_false fun h => e ?_
              rw [h, hy] at hx; cases hx; rfl)
            have rq := reqB_ne e
            obtain ⟨a, b, c⟩ := x
            obtain ⟨a', b', c'⟩ := y
            have ne := neq_range a b c a' b' c'
            rw [rq] at ne
            clear hx hy e rq
            go_wp2_with fail
            go_quiet (fail)
            go_wp2
            rw [E.out]
            exact bodyPost_ret (v := .bool false) (by simp [results, Try.results51, go_sem, *]) rfl ⟨rfl, HB.out.trans (below_drewN (Below.refl _ _) _)⟩
        · have E : Hid (decide (L = M) = true) := Lib.hid (by
            obtain rfl : k = L.length := by omega
            have h := TK.out
            rw [List.take_length, HL.out, List.take_length] at h
            rw [h]; exact decide_eq_true rfl)
          go_wp2
          rw [E.out]
          exact bodyPost_ret (v := .bool true) (by simp [results, Try.results51, go_sem, *]) rfl ⟨rfl, HB.out⟩
  · have E : Hid (decide (L = M) = false) := Lib.hid (decide_eq_false fun h => hl (by rw [h]))
    have hl' : ((L.length : Int) != (M.length : Int)) = true := by simp; omega
    go_enter Try.func51, Try.ntmps51
    go_wp2
    rw [E.out]
    exact bodyPost_ret (v := .bool false) (by simp [results, Try.results51, go_sem, *]) rfl ⟨rfl, Below.refl _ _⟩
/-- what Within returns -/
def DWinRet (L : List R3) (k s h : Int) (M : List R3) (k' s' h' : Int) (w : World) : Ending → World → Prop := fun e w' => ∃ (b : Bool) (er : Int), e = .returned (.tuple #[.bool b, .int .i64 er]) ∧ Below w.heap.size w w' ∧
  Hid ((¬ dboth L k s h M k' s' h' = 0 ∧ er = dboth L k s h M k' s' h' ∧ b = false) ∨ (dboth L k s h M k' s' h' = 0 ∧ er = 0 ∧ ∃ C, Meets L M C ∧ b = (prodL C == prodL L)))
set_option maxRecDepth 100000 in
set_option maxHeartbeats 6400000 in
theorem Dwin_any (v : Value) (L : List R3) (k s h : Int) (v' : Value) (M : List R3) (k' s' h' : Int) (w : World) (hr : Rd w v L) (hL : Ok3 L) (hr' : Rd w v' M) (hM : Ok3 M) :
    Calls Try.prog 86 #[.agg #[v, .int .i64 k, .int .i64 s, .int .i64 h], .agg #[v', .int .i64 k', .int .i64 s', .int .i64 h']] w (DWinRet L k s h M k' s' h' w) := by
  obtain ⟨ao, cap, rfl, hc⟩ := hr
  obtain ⟨ao', cap', rfl, hc'⟩ := hr'
  have HR : Hid (Rd w (.slice ao L.length cap) L) := Lib.hid ⟨ao, cap, rfl, hc⟩
  have HR' : Hid (Rd w (.slice ao' M.length cap') M) := Lib.hid ⟨ao', cap', rfl, hc'⟩
  have HL := Lib.hid hL
  have HM := Lib.hid hM
  clear hc hL hc' hM
  go_enter Try.func86, Try.ntmps86
  go_wp2_with fail
  refine (Dinter_any _ L k s h _ M k' s' h' _ ((HR.out.keep (below_new _ _)).keep (below_new _ _)) HL.out ((HR'.out.keep (below_new _ _)).keep (below_new _ _)) HM.out).mono ?_
  rintro e w1 ⟨rv, kk, ss, hh, er, rfl, hb1, hE⟩
  have R1 := res44 hb1
  have S0 : ((w.alloc (.cells #[.slice ao L.length cap, .int .i64 k, .int .i64 s, .int .i64 h] 62)).alloc (.cells #[.slice ao' M.length cap', .int .i64 k', .int .i64 s', .int .i64 h'] 62)).heap.size = w.heap.size + 1 + 1 := by simp
  by_cases c : dboth L k s h M k' s' h' = 0
  · have C := Lib.hid c
    obtain ⟨rfl, rfl, rfl, rfl, X, hX, own⟩ : er = 0 ∧ kk = k ∧ ss = s ∧ hh = h ∧ ∃ X, Meets L M X ∧ w1.ownsRow (w.heap.size + 1 + 1) 23 3 rv X.length (cells3 X) := by
      rcases hE.out with ⟨_, h1, h2, h3, h4, X, hX, own⟩ | ⟨h0, _⟩
      · rw [S0] at own
        exact ⟨h1, h2, h3, h4, X, hX, own⟩
      · exact absurd c h0
    have HX := Lib.hid hX
    obtain ⟨ra, rc, rfl⟩ := owns_slice own
    have T2 : Hid (SbSt w (.slice ao L.length cap) kk ss hh (.slice ao' M.length cap') k' s' h' w1.heap.size (.slice ra X.length rc) X (w1.alloc (.cells #[.slice ra X.length rc, .int .i64 kk, .int .i64 ss, .int .i64 hh] 62))) := Lib.hid (by
      have nb := below_new w1 (.cells #[.slice ra X.length rc, .int .i64 kk, .int .i64 ss, .int .i64 hh] 62)
      exact ⟨R1.1.trans (nb.mono R1.1.size), R1.2.1.keep nb, R1.2.2.keep nb, Blk.new _ _ _ _ _ w1, owns_base (owns_below own nb) (by omega), fun g hg => (own.lt g hg).2, R1.2.2.size⟩)
    have ok := Lib.hid (dboth_zero c)
    have rk := Lib.hid (dchk_rank ok.out.1)
    have ln := Lib.hid ok.out.2.2
    have lx := Lib.hid hX.1
    clear hE hb1 R1 S0 own hX c
    go_upto_region 4 with fail
    generalize w1.alloc (.cells #[.slice ra X.length rc, .int .i64 kk, .int .i64 ss, .int .i64 hh] 62) = w2 at *
    generalize w1.heap.size = cb at *
    have x0 := T2.out.a.c0
    have y0 := T2.out.c.c0
    refine wp_region_held_drew (S := (fun w' => w'.cell? ⟨w.heap.size, 0, none⟩ = some (.slice ao L.length cap) ∧ w'.cell? ⟨cb, 0, none⟩ = some (.slice ra X.length rc))) (by kernel_rfl) ?_ (fun hHeld => ?_)
    · first | exact hHeld | exact ⟨x0, y0⟩ | (obtain ⟨q0, q1⟩ := hHeld; refine ⟨?_, ?_⟩ <;> simp [go_sem, *]; done) | go_keep
    refine wpAnyH_take (i := 0) (oi := { dst := some 17, op := Op.fieldAddr 62 (Operand.tmp 6) 0, type := 0, pos := "sets.go:111", after := #[], guard := none }) (v := ?_) rfl (by kernel_rfl) (by kernel_rfl) (by kernel_rfl) (fun _ _ _ h => h) (Or.inl ⟨by rfl, ?_⟩) (by assumption) ?_
    rotate_left
    · (intro w hSw; (try dsimp only at hSw); go_simp; first | done | with_reducible rfl)
    try simp only [Act.put, List.setIfInBounds_toArray, List.set_cons_zero, List.set_cons_succ]
    refine wpAnyH_take (i := 1) (oi := { dst := some 18, op := Op.load 40 (Operand.tmp 17), type := 40, pos := "sets.go:111", after := #[{ on := 0, ground := Ground.data }], guard := none }) (v := ?_) rfl (by kernel_rfl) (by kernel_rfl) (by kernel_rfl) (fun _ _ _ h => h) (Or.inl ⟨by rfl, ?_⟩) (by assumption) ?_
    rotate_left
    · (intro w hSw; (try dsimp only at hSw); go_simp; first | done | with_reducible rfl)
    try simp only [Act.put, List.setIfInBounds_toArray, List.set_cons_zero, List.set_cons_succ]
    refine wpAnyH_take (i := 3) (oi := { dst := some 20, op := Op.fieldAddr 62 (Operand.tmp 2) 0, type := 0, pos := "sets.go:111", after := #[], guard := none }) (v := ?_) rfl (by kernel_rfl) (by kernel_rfl) (by kernel_rfl) (fun _ _ _ h => h) (Or.inl ⟨by rfl, ?_⟩) (by assumption) ?_
    rotate_left
    · (intro w hSw; (try dsimp only at hSw); go_simp; first | done | with_reducible rfl)
    try simp only [Act.put, List.setIfInBounds_toArray, List.set_cons_zero, List.set_cons_succ]
    refine wpAnyH_take (i := 4) (oi := { dst := some 21, op := Op.load 40 (Operand.tmp 20), type := 40, pos := "sets.go:111", after := #[{ on := 3, ground := Ground.data }], guard := none }) (v := ?_) rfl (by kernel_rfl) (by kernel_rfl) (by kernel_rfl) (fun _ _ _ h => h) (Or.inl ⟨by rfl, ?_⟩) (by assumption) ?_
    rotate_left
    · (intro w hSw; (try dsimp only at hSw); go_simp; first | done | with_reducible rfl)
    try simp only [Act.put, List.setIfInBounds_toArray, List.set_cons_zero, List.set_cons_succ]
    refine wpAnyH_ready (rs := [2]) (by kernel_rfl) (by simp) ?_
    refine AllReadyH.cons (o := { dst := some 19, op := Op.call { callee := Callee.value (Operand.func 142), args := #[Operand.tmp 18], argTypes := #[40] }, type := 3, pos := "sets.go:111", after := #[{ on := 1, ground := Ground.data }], guard := none }) rfl (fun K hK => ?_) AllReadyH.nil
    go_simp
    refine (product_any _ X _ (Rd.of_own (T2.out.keep (to_drew (Below.refl _ _))).row) (meets_ok HX.out) (by have := rk.out; have := lx.out; omega)).mono ?_
    rintro e w3 ⟨rfl, hb3'⟩
    have hb3 : Below w2.heap.size w2 w3 := ⟨hb3'.os, hb3'.tape, hb3'.output, hb3'.size, hb3'.block⟩
    clear hb3'
    go_wp2_with fail
    refine hK.out _ _ ?_ (fun hHeld2 => ?_)
    · exact ⟨(hb3.cell (p := ⟨w.heap.size, 0, none⟩) T2.out.a.size).trans x0, (hb3.cell (p := ⟨cb, 0, none⟩) T2.out.c.size).trans y0⟩
    clear hK K hHeld
    have hHeld := hHeld2
    clear hHeld2
    try simp only [Act.put, List.setIfInBounds_toArray, List.set_cons_zero, List.set_cons_succ]
    refine wpAnyH_ready (rs := [5]) (by kernel_rfl) (by simp) ?_
    refine AllReadyH.cons (o := { dst := some 22, op := Op.call { callee := Callee.value (Operand.func 142), args := #[Operand.tmp 21], argTypes := #[40] }, type := 3, pos := "sets.go:111", after := #[{ on := 4, ground := Ground.data }, { on := 2, ground := Ground.chain }], guard := none }) rfl (fun K hK => ?_) AllReadyH.nil
    go_simp
    refine (product_any _ L _ (HR.out.keep (T2.out.below.trans (hb3.mono T2.out.below.size))) HL.out (by have := rk.out; omega)).mono ?_
    rintro e w4 ⟨rfl, hb4'⟩
    have hb4 : Below w2.heap.size w2 w4 := hb3.trans (hb4'.mono hb3.size)
    have T4 := Lib.hid (T2.out.keep hb4)
    clear hb4'
    go_wp2_with fail
    refine hK.out _ _ ?_ (fun hHeld5 => ?_)
    · exact ⟨(hb4.cell (p := ⟨w.heap.size, 0, none⟩) T2.out.a.size).trans x0, (hb4.cell (p := ⟨cb, 0, none⟩) T2.out.c.size).trans y0⟩
    clear hK K hHeld
    have hHeld := hHeld5
    clear hHeld5
    try simp only [Act.put, List.setIfInBounds_toArray, List.set_cons_zero, List.set_cons_succ]
    refine wpAnyH_take (i := 6) (oi := { dst := some 23, op := Op.binOp BinOp.eql 3 (Operand.tmp 19) (Operand.tmp 22) 3, type := 4, pos := "sets.go:111", after := #[{ on := 2, ground := Ground.data }, { on := 5, ground := Ground.data }], guard := none }) (v := ?_) rfl (by kernel_rfl) (by kernel_rfl) (by kernel_rfl) (fun _ _ _ h => h) (Or.inl ⟨by rfl, ?_⟩) (by assumption) ?_
    rotate_left
    · (intro w hSw; (try dsimp only at hSw); go_simp; first | done | with_reducible rfl)
    try simp only [Act.put, List.setIfInBounds_toArray, List.set_cons_zero, List.set_cons_succ]
    refine wpAnyH_take (i := 7) (oi := { dst := some 4, op := Op.assign (Operand.tmp 23), type := 4, pos := "sets.go:111", after := #[{ on := 6, ground := Ground.data }, { on := 5, ground := Ground.chain }, { on := 0, ground := Ground.phase }, { on := 1, ground := Ground.phase }, { on := 2, ground := Ground.phase }, { on := 3, ground := Ground.phase }, { on := 4, ground := Ground.phase }, { on := 5, ground := Ground.phase }, { on := 6, ground := Ground.phase }], guard := none }) (v := ?_) rfl (by kernel_rfl) (by kernel_rfl) (by kernel_rfl) (fun _ _ _ h => h) (Or.inl ⟨by rfl, ?_⟩) (by assumption) ?_
    rotate_left
    · (intro w hSw; (try dsimp only at hSw); go_simp; first | done | with_reducible rfl)
    try simp only [Act.put, List.setIfInBounds_toArray, List.set_cons_zero, List.set_cons_succ]
    refine wpAnyH_take (i := 8) (oi := { dst := some 5, op := Op.assign (Operand.const (Value.int IntKind.i64 0)), type := 24, pos := "sets.go:111", after := #[{ on := 7, ground := Ground.chain }, { on := 0, ground := Ground.phase }, { on := 1, ground := Ground.phase }, { on := 2, ground := Ground.phase }, { on := 3, ground := Ground.phase }, { on := 4, ground := Ground.phase }, { on := 5, ground := Ground.phase }, { on := 6, ground := Ground.phase }, { on := 7, ground := Ground.phase }], guard := none }) (v := ?_) rfl (by kernel_rfl) (by kernel_rfl) (by kernel_rfl) (fun _ _ _ h => h) (Or.inl ⟨by rfl, ?_⟩) (by assumption) ?_
    rotate_left
    · (intro w hSw; (try dsimp only at hSw); go_simp; first | done | with_reducible rfl)
    try simp only [Act.put, List.setIfInBounds_toArray, List.set_cons_zero, List.set_cons_succ]
    refine wpAnyH_done (by kernel_rfl) ?_ _

    clear hHeld
    go_wp2
    exact bodyPost_ret (v := .tuple #[.bool (prodL X == prodL L), .int .i64 0]) (by simp [results, Try.results86, go_sem, *]) rfl ⟨_, _, rfl, T4.out.below, Lib.hid (Or.inr ⟨C.out, rfl, X, HX.out, rfl⟩)⟩
  · have c' : (dboth L k s h M k' s' h' != 0) = true := by simp [c]
    have C := Lib.hid c
    obtain ⟨rfl, rfl, rfl, rfl, rfl⟩ : er = dboth L k s h M k' s' h' ∧ rv = .slice none 0 0 ∧ kk = 0 ∧ ss = 0 ∧ hh = 0 := by
      rcases hE.out with ⟨h0, _⟩ | ⟨_, h1, h2, h3, h4, h5⟩
      · exact absurd h0 c
      · exact ⟨h1, h2, h3, h4, h5⟩
    have B1 := Lib.hid R1.1
    clear c hE hb1 R1 S0
    go_wp2
    refine bodyPost_ret (v := .tuple #[.bool false, .int .i64 (dboth L k s h M k' s' h')]) (by simp [results, Try.results86, go_sem, *]) rfl ⟨_, _, rfl, ?_, Lib.hid (Or.inl ⟨C.out, rfl, rfl⟩)⟩
    exact B1.out.trans ((below_new _ _).mono B1.out.size)
/-- what Same returns -/
def dsame (L : List R3) (k s h : Int) (M : List R3) (k' s' h' : Int) : Bool := (dboth L k s h M k' s' h' == 0) && ((prodL L == 0 && prodL M == 0) || decide (L = M))
set_option maxRecDepth 100000 in
set_option maxHeartbeats 6400000 in
theorem Dsame_any (v : Value) (L : List R3) (k s h : Int) (v' : Value) (M : List R3) (k' s' h' : Int) (w : World) (hr : Rd w v L) (hL : Ok3 L) (hr' : Rd w v' M) (hM : Ok3 M) :
    Calls Try.prog 89 #[.agg #[v, .int .i64 k, .int .i64 s, .int .i64 h], .agg #[v', .int .i64 k', .int .i64 s', .int .i64 h']] w fun e w' => e = .returned (.bool (dsame L k s h M k' s' h')) ∧ Below w.heap.size w w' := by
  obtain ⟨ao, cap, rfl, hc⟩ := hr
  obtain ⟨ao', cap', rfl, hc'⟩ := hr'
  have HR : Hid (Rd w (.slice ao L.length cap) L) := Lib.hid ⟨ao, cap, rfl, hc⟩
  have HR' : Hid (Rd w (.slice ao' M.length cap') M) := Lib.hid ⟨ao', cap', rfl, hc'⟩
  have HL := Lib.hid hL
  have HM := Lib.hid hM
  clear hc hL hc' hM
  go_enter Try.func89, Try.ntmps89
  go_wp2_with fail
  refine (Dboth_any _ L k s h _ M k' s' h' _ ((HR.out.keep (below_new _ _)).keep (below_new _ _)) HL.out ((HR'.out.keep (below_new _ _)).keep (below_new _ _)) HM.out).mono ?_
  rintro e w1 ⟨rfl, hb1⟩
  have R1 := res44 hb1
  have B1 := Lib.hid R1.1
  have D1 := Lib.hid R1.2.1
  have F1 := Lib.hid R1.2.2
  clear hb1 R1
  by_cases c : dboth L k s h M k' s' h' = 0
  · have c' : (dboth L k s h M k' s' h' != 0) = false := by simp [c]
    have C := Lib.hid c
    have ok := Lib.hid (dboth_zero c)
    have rk := Lib.hid (dchk_rank ok.out.1)
    have ln := Lib.hid ok.out.2.2
    clear c
    have x0 := D1.out.c0
    go_wp2_with fail
    refine (product_any _ L _ (HR.out.keep B1.out) HL.out (by have := rk.out; omega)).mono ?_
    rintro e w2 ⟨rfl, hb2⟩
    have B2 := Lib.hid (B1.out.trans (hb2.mono B1.out.size))
    have D2 := Lib.hid (D1.out.keep hb2)
    have F2 := Lib.hid (F1.out.keep hb2)
    clear hb2 B1 D1 F1 x0
    have x0 := D2.out.c0
    have y0 := F2.out.c0
    by_cases p : prodL L = 0
    · have p' : (prodL L == 0) = true := by simp [p]
      have PL := Lib.hid p
      clear p
      go_wp2_with fail
      refine (product_any _ M _ (HR'.out.keep B2.out) HM.out (by have := rk.out; have := ln.out; omega)).mono ?_
      rintro e w3 ⟨rfl, hb3⟩
      have B3 := Lib.hid (B2.out.trans (hb3.mono B2.out.size))
      have D3 := Lib.hid (D2.out.keep hb3)
      have F3 := Lib.hid (F2.out.keep hb3)
      clear hb3 B2 D2 F2 x0 y0
      have x0 := D3.out.c0
      have y0 := F3.out.c0
      by_cases q : prodL M = 0
      · have q' : (prodL M == 0) = true := by simp [q]
        have E : Hid (dsame L k s h M k' s' h' = true) := Lib.hid (by unfold dsame; simp [C.out, PL.out, q])
        clear q
        go_wp2
        rw [E.out]
        exact bodyPost_ret (v := .bool true) (by simp [results, Try.results89, go_sem, *]) rfl ⟨rfl, B3.out⟩
      · have q' : (prodL M == 0) = false := by simp [q]
        have E : Hid (dsame L k s h M k' s' h' = decide (L = M)) := Lib.hid (by unfold dsame; simp [C.out, PL.out, q])
        clear q
        go_wp2_with fail
        refine (equalR_any _ _ L M _ (HR.out.keep B3.out) (HR'.out.keep B3.out) (by have := rk.out; omega)).mono ?_
        rintro e w4 ⟨rfl, hb4⟩
        have B4 := Lib.hid (B3.out.trans (hb4.mono B3.out.size))
        clear hb4
        go_wp2
        rw [E.out]
        exact bodyPost_ret (v := .bool (decide (L = M))) (by simp [results, Try.results89, go_sem, *]) rfl ⟨rfl, B4.out⟩
    · have p' : (prodL L == 0) = false := by simp [p]
      have E : Hid (dsame L k s h M k' s' h' = decide (L = M)) := Lib.hid (by unfold dsame; simp [C.out, p])
      clear p
      go_wp2_with fail
      refine (equalR_any _ _ L M _ (HR.out.keep B2.out) (HR'.out.keep B2.out) (by have := rk.out; omega)).mono ?_
      rintro e w4 ⟨rfl, hb4⟩
      have B4 := Lib.hid (B2.out.trans (hb4.mono B2.out.size))
      clear hb4
      go_wp2
      rw [E.out]
      exact bodyPost_ret (v := .bool (decide (L = M))) (by simp [results, Try.results89, go_sem, *]) rfl ⟨rfl, B4.out⟩
  · have c' : (dboth L k s h M k' s' h' != 0) = true := by simp [c]
    have E : Hid (dsame L k s h M k' s' h' = false) := Lib.hid (by unfold dsame; simp [c])
    clear c
    go_wp2
    rw [E.out]
    exact bodyPost_ret (v := .bool false) (by simp [results, Try.results89, go_sem, *]) rfl ⟨rfl, B1.out⟩
end Go.Proofs.Ytabgphlpdoockaa
namespace Go.Proofs.Ytabgphlpdoockaa
open Go.ChangeShapes Go.WideShapes Go.ChangeAt Go.RowKit Go.Joins
theorem spot_of_cell {w : World} {a : Addr} {v : Value} (h : w.cell? a = some v) : a.spot = none := by
  unfold World.cell? at h
  split at h
  · split at h
    · cases h
    · rename_i hs
      cases e : a.spot with
      | none => rfl
      | some x => rw [e] at hs; exact absurd rfl hs
  · cases h
theorem spot_of_cells {w : World} {a : Addr} {v : Value} (h : w.cell? (a.add 0) = some v) : ∃ b o : Nat, a = ⟨b, o, none⟩ := by
  have e : a.add 0 = a := by simp [Addr.add]
  rw [e] at h
  have := spot_of_cell h
  obtain ⟨b, o, s⟩ := a
  simp at this
  subst this
  exact ⟨b, o, rfl⟩
theorem Try.cellsDomain : Try.prog.cellsOf 62 = 4 := by kernel_rfl
theorem Try.cellsRanges : Try.prog.cellsOf 40 = 1 := by kernel_rfl
theorem Try.cellsMap : Try.prog.cellsOf 60 = 3 := by kernel_rfl
theorem Try.cellsInt : Try.prog.cellsOf 3 = 1 := by kernel_rfl
theorem wf_i64 {n : Int} (h : (Lit.int .i64 n).wf = true) : I64 n := by
  have := wf64 h
  unfold I64; omega
section
variable {H : Type} {enc : TypeId × Value → H} {w : World} {base : Nat} {held : Bool}
set_option maxRecDepth 100000 in
/-- three ints in a row that read as a range -/
theorem open_cells3 {n : Nat} {cs : List Value} {x : DataW H × List MemPlace} {spare : Nat → Bool} (h : DataW.trod enc Try.prog w base spare held n 23 cs = some x) : ∃ a b c : Int, cs = [.int .i64 a, .int .i64 b, .int .i64 c] ∧ I64 a ∧ I64 b ∧ I64 c := by
  obtain ⟨y0, y1, y2, n', _, hl, h0, h1, h2⟩ := Deep.trod_struct3 Try.underlying23 h
  rw [Try.cellsRange] at hl
  match cs, hl with
  | [c0, c1, c2], _ =>
    obtain ⟨a, e0, _, wa⟩ := DataW.trod_int Try.underlying3 h0
    obtain ⟨b, e1, _, wb⟩ := DataW.trod_int Try.underlying3 h1
    obtain ⟨c, e2, _, wc⟩ := DataW.trod_int Try.underlying3 h2
    simp [Try.cellsInt] at e0 e1 e2
    subst e0 e1 e2
    exact ⟨a, b, c, rfl, wf_i64 wa, wf_i64 wb, wf_i64 wc⟩
set_option maxRecDepth 100000 in
/-- a slice of ranges as data, opened -/
theorem open_ranges {fuel : Nat} {dv : Value} {x : DataW H × List MemPlace} (h : DataW.trod enc Try.prog w base (fun _ => true) held fuel 40 [dv] = some x) :
    ∃ L : List R3, Rd w dv L ∧ Ok3 L ∧ ∀ a n c, dv = .slice a n c → n ≤ c := by
  rcases Deep.open_slice Try.underlying40 h with ⟨e, _⟩ | ⟨a, len, cap, m, n, D, Pl, e, hb, hl, hm, hmm, _, hx⟩
  · simp at e; subst e
    exact ⟨[], ⟨none, 0, rfl, Or.inl rfl⟩, (fun _ hx => by cases hx), fun a n c e => by cases e; exact Nat.le_refl _⟩
  · simp at e; subst e
    have hm' : m = cap := by simpa using hmm
    subst hm'
    have each : ∀ i, i < m → ∃ q : R3, w.cell? (a.add (i * 3)) = some (.int .i64 q.1) ∧ w.cell? (a.add (i * 3 + 1)) = some (.int .i64 q.2.1) ∧ w.cell? (a.add (i * 3 + 2)) = some (.int .i64 q.2.2) ∧ I64 q.1 ∧ I64 q.2.1 ∧ I64 q.2.2 := by
      intro i hi
      obtain ⟨cs, h1, h2⟩ := hx i hi
      rw [Try.cellsRange] at h1
      obtain ⟨_, _, hc⟩ := World.cells?_some h1
      obtain ⟨p, q, r, rfl, i0, i1, i2⟩ := open_cells3 h2
      have e0 := hc 0 (by omega)
      have e1 := hc 1 (by omega)
      have e2 := hc 2 (by omega)
      rw [Deep.add_add] at e0 e1 e2
      exact ⟨(p, q, r), by simpa using e0, by simpa using e1, by simpa using e2, i0, i1, i2⟩
    obtain ⟨q, hq⟩ := Deep.choose_lt each
    have hlen : ((List.range len).map q).length = len := by simp
    refine ⟨(List.range len).map q, ⟨some a, m, by rw [hlen], ?_⟩, fun x hx => ?_, fun a n c e => by cases e; exact hl⟩
    · by_cases z : len = 0
      · exact Or.inl (by rw [hlen]; exact z)
      · right
        have h0 := (hq 0 (by omega)).1
        obtain ⟨b, o, rfl⟩ := spot_of_cells (a := a) (by simpa using h0)
        refine ⟨b, o, rfl, ?_, fun j x hx => ?_⟩
        · have : (⟨b, o, none⟩ : Addr).add (0 * 3) = ⟨b, o, none⟩ := by simp [Addr.add]
          rw [this] at h0
          exact World.block_lt_of_cell? w _ h0
        · have hj : j < len := by have := (List.getElem?_eq_some_iff.1 hx).1; simpa using this
          have ex : x = q j := by
            rw [List.getElem?_map, List.getElem?_range hj] at hx
            simpa using hx.symm
          subst ex
          obtain ⟨c0, c1, c2, _⟩ := hq j (by omega)
          have ad : ∀ k : Nat, (⟨b, o, none⟩ : Addr).add k = ⟨b, o + k, none⟩ := fun k => by
            by_cases k0 : k = 0 <;> simp [Addr.add, k0]
          rw [ad] at c0 c1 c2
          exact ⟨c0, c1, c2⟩
    · obtain ⟨j, hj, rfl⟩ := List.mem_map.1 hx
      have := hq j (by have := List.mem_range.1 hj; omega)
      exact this.2.2.2
set_option maxRecDepth 100000 in
/-- a domain as data, opened -/
theorem open_domain {r : Reach} {b0 : Nat} {v : Value} {d : DataW H} {p : List MemPlace} (hv : Value.okWide Try.prog w r b0 62 v) (h : DataW.Trod enc Try.prog w base (fun _ => true) held 62 v d p) :
    ∃ (dv : Value) (L : List R3) (k s m : Int), v = .agg #[dv, .int .i64 k, .int .i64 s, .int .i64 m] ∧ Rd w dv L ∧ Ok3 L ∧ (∀ a n c, dv = .slice a n c → n ≤ c) ∧ I64 k ∧ I64 s ∧ I64 m := by
  obtain ⟨cs, rfl, hsz⟩ := okWide_struct Try.underlying62 hv
  obtain ⟨c0, c1, c2, c3, rfl⟩ := array4 (hsz.trans Try.cellsDomain)
  obtain ⟨fuel, hf⟩ := h
  obtain ⟨y0, y1, n, _, _, h0, h1⟩ := trod_struct2 Try.underlying62 hf
  simp [Value.cells, Try.cellsRanges, Try.cellsMap] at h0 h1
  obtain ⟨z0, z1, z2, n', _, _, g0, g1, g2⟩ := Deep.trod_struct3 Try.underlying60 h1
  obtain ⟨k, e0, _, wk⟩ := DataW.trod_int Try.underlying3 g0
  obtain ⟨s, e1, _, ws⟩ := DataW.trod_int Try.underlying3 g1
  obtain ⟨m, e2, _, wm⟩ := DataW.trod_int Try.underlying3 g2
  simp [Try.cellsInt] at e0 e1 e2
  subst e0 e1 e2
  obtain ⟨L, hR, hO, hC⟩ := open_ranges h0
  exact ⟨c0, L, k, s, m, rfl, hR, hO, hC, wf_i64 wk, wf_i64 ws, wf_i64 wm⟩
end
theorem Try.laidOutD : laidOutB Try.prog = true := by kernel_rfl
theorem back_argD {H : Type} {enc : TypeId × Value → H} {W W' : World} {v : Value} {d : DataW H} {ps : List MemPlace} (h : DataW.Trod enc Try.prog W 0 (fun _ => true) true 62 v d ps) (hb : Below W.heap.size W W')
    (hlt : ∀ x ∈ ps, x.block < W.heap.size) (sp : Nat → Bool) (hs : ∀ x ∈ ps, sp x.block = true) : DataW.Trod enc Try.prog W' 0 sp true 62 v d ps :=
  WideElems.Trod_stays Try.laidOutD (by kernel_rfl) (of_decide_eq_true (by kernel_rfl)) h (fun x hx => hb.same (hlt x hx)) hs
end Go.Proofs.Ytabgphlpdoockaa
namespace Go.Proofs.Ytabgphlpdoockaa
open Go.RowKit
/-- a slice of ints reads as a list -/
def Ri (w : World) (v : Value) (L : List Int) : Prop := ∃ (ao : Option Addr) (cap : Nat), v = .slice ao L.length cap ∧ (L.length = 0 ∨ ∃ b o : Nat, ao = some ⟨b, o, none⟩ ∧ b < w.heap.size ∧
  ∀ (j : Nat) (x : Int), L[j]? = some x → w.cell? ⟨b, o + j, none⟩ = some (.int .i64 x))
theorem Ri.keep {w w' : World} {v : Value} {L : List Int} (r : Ri w v L) (hb : Below w.heap.size w w') : Ri w' v L := by
  obtain ⟨ao, cap, e, h⟩ := r
  refine ⟨ao, cap, e, h.imp id ?_⟩
  rintro ⟨b, o, e, hlt, hc⟩
  exact ⟨b, o, e, Nat.lt_of_lt_of_le hlt hb.size, fun j x hx => (hb.cell (p := ⟨b, o + j, none⟩) hlt).trans (hc j x hx)⟩
def Ok1 (L : List Int) : Prop := ∀ x ∈ L, I64 x
end Go.Proofs.Ytabgphlpdoockaa
