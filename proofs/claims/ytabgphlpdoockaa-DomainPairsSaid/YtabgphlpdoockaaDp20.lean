/-
  Part 20: RDW.
-/
import Derived.Test.YtabgphlpdoockaaDp18
import Derived.Test.YtabgphlpdoockaaDp19
import Derived.BigQuiet
import Derived.Deep.CutBlock
import Derived.Deep.DeepCutAuto
import Derived.Deep.DrawnRows
import Derived.Deep.LoopGhost
import Derived.Deep.QuietTactic
import Derived.Deep.RegionHeld3
import Derived.Deep.RegionWith
import Derived.Lib.Hide
import Derived.WalkKit
import Derived.WalkLawsBesides
import Derived.WalkSpells
namespace Go.Proofs.Ytabgphlpdoockaa
open Go.RowKit
theorem cells4_get : ∀ (us : List Value) (k s h : Int) (j : Nat) (u : Value), us[j]? = some u → (cells4 us k s h)[j * 4]? = some u ∧ (cells4 us k s h)[j * 4 + 1]? = some (.int .i64 k) ∧ (cells4 us k s h)[j * 4 + 2]? = some (.int .i64 s) ∧ (cells4 us k s h)[j * 4 + 3]? = some (.int .i64 h)
  | [], _, _, _, j, u, hu => by simp at hu
  | v :: us, k, s, h, 0, u, hu => by simp at hu; subst hu; exact ⟨rfl, rfl, rfl, rfl⟩
  | v :: us, k, s, h, j + 1, u, hu => by
    have ih := cells4_get us k s h j u (by simpa using hu)
    have e : cells4 (v :: us) k s h = v :: .int .i64 k :: .int .i64 s :: .int .i64 h :: cells4 us k s h := rfl
    rw [e, show (j + 1) * 4 = j * 4 + 4 by omega]
    exact ih
theorem own4_at {w : World} {base g n cap : Nat} {us : List Value} {k s h : Int} (o : w.ownsRow base 62 4 (.slice (some ⟨g, 0, none⟩) n cap) n (cells4 us k s h)) (hn : us.length = n) (j : Nat) (u : Value) (hu : us[j]? = some u) :
    w.cell? ⟨g, j * 4, none⟩ = some u ∧ w.cell? ⟨g, j * 4 + 1, none⟩ = some (.int .i64 k) ∧ w.cell? ⟨g, j * 4 + 2, none⟩ = some (.int .i64 s) ∧ w.cell? ⟨g, j * 4 + 3, none⟩ = some (.int .i64 h) := by
  have hj : j < us.length := (List.getElem?_eq_some_iff.1 hu).1
  obtain ⟨q0, q1, q2, q3⟩ := cells4_get us k s h j u hu
  exact ⟨(o.cellAt (j * 4) (by omega)).trans q0, (o.cellAt (j * 4 + 1) (by omega)).trans q1, (o.cellAt (j * 4 + 2) (by omega)).trans q2, (o.cellAt (j * 4 + 3) (by omega)).trans q3⟩
set_option maxRecDepth 100000 in
set_option maxHeartbeats 3200000 in
/-- slices.EqualFunc over two lists of the same domains -/
theorem eqFuncD (b1 b2 : Nat) (va vb : Value) (Ds : List (List R3)) (k s h : Int) (w : World) (o1 : OwnD b1 w va Ds k s h) (o2 : OwnD b2 w vb Ds k s h) (hn : Ds.length ≤ 5000) (hD : ∀ D ∈ Ds, D.length ≤ 5000) :
    Calls Try.prog 88 #[va, vb, .func (.func 66) #[] #[]] w fun e w' => e = .returned (.bool true) ∧ Below w.heap.size w w' := by
  obtain ⟨us, e1, r1, x1⟩ := o1
  obtain ⟨us', e2, r2, x2⟩ := o2
  rw [e1] at r1
  rw [e2] at r2
  obtain ⟨a1, c1, rfl⟩ := owns_slice r1
  obtain ⟨a2, c2, rfl⟩ := owns_slice r2
  have R1 := Lib.hid r1
  have R2 := Lib.hid r2
  have X1 := Lib.hid x1
  have X2 := Lib.hid x2
  have E1 := Lib.hid e1
  have E2 := Lib.hid e2
  have HD := Lib.hid hD
  clear r1 r2 x1 x2 e1 e2 hD
  go_enter Try.func88, Try.ntmps88
  go_wp2_with fail
  go_loopg [7, 8, 9, 17] (Ds.length + 1) (fun gh _ _ _ v17 wr => ∃ j : Nat, v17 = .int .i64 j ∧ (j ≤ Ds.length ∧ Ds.length - j < gh) ∧ Hid (Below w.heap.size w wr))
  case atStart => exact ⟨0, rfl, ⟨by omega, by omega⟩, Lib.hid (Below.refl _ _)⟩
  case round =>
    obtain ⟨j, rfl, ⟨j0, jg⟩, HB⟩ := hrel
    have KG := Lib.hid jg
    clear jg
    by_cases hj : j < Ds.length
    · obtain ⟨D, hDj⟩ : ∃ D, Ds[j]? = some D := ⟨Ds[j], List.getElem?_eq_getElem hj⟩
      obtain ⟨u1, hu1⟩ : ∃ u, us[j]? = some u := ⟨us[j]'(by have := E1.out; omega), List.getElem?_eq_getElem _⟩
      obtain ⟨u2, hu2⟩ : ∃ u, us'[j]? = some u := ⟨us'[j]'(by have := E2.out; omega), List.getElem?_eq_getElem _⟩
      obtain ⟨g1, rfl⟩ : ∃ g, a1 = some ⟨g, 0, none⟩ := owns_addr R1.out (by omega)
      obtain ⟨g2, rfl⟩ : ∃ g, a2 = some ⟨g, 0, none⟩ := owns_addr R2.out (by omega)
      have K1 := own4_at R1.out E1.out j u1 hu1
      have K2 := own4_at R2.out E2.out j u2 hu2
      have z1 := (R1.out.lt g1 rfl).2
      have z2 := (R2.out.lt g2 rfl).2
      have O1 := Lib.hid (X1.out j u1 D hu1 hDj)
      have O2 := Lib.hid (X2.out j u2 D hu2 hDj)
      have DL := Lib.hid (HD.out D (List.mem_of_getElem? hDj))
      obtain ⟨p1, q1, rfl⟩ := owns_slice O1.out
      obtain ⟨p2, q2, rfl⟩ := owns_slice O2.out
      have a0 := (HB.out.cell (p := ⟨g1, j * 4, none⟩) z1).trans K1.1
      have a1 := (HB.out.cell (p := ⟨g1, j * 4 + 1, none⟩) z1).trans K1.2.1
      have a2 := (HB.out.cell (p := ⟨g1, j * 4 + 2, none⟩) z1).trans K1.2.2.1
      have a3 := (HB.out.cell (p := ⟨g1, j * 4 + 3, none⟩) z1).trans K1.2.2.2
      have d0 := (HB.out.cell (p := ⟨g2, j * 4, none⟩) z2).trans K2.1
      have d1 := (HB.out.cell (p := ⟨g2, j * 4 + 1, none⟩) z2).trans K2.2.1
      have d2 := (HB.out.cell (p := ⟨g2, j * 4 + 2, none⟩) z2).trans K2.2.2.1
      have d3 := (HB.out.cell (p := ⟨g2, j * 4 + 3, none⟩) z2).trans K2.2.2.2
      have Z2 := Nat.lt_of_lt_of_le z2 HB.out.size
      have jw : IntKind.i64.wrap ((j : Int) + 1) = (j : Int) + 1 := IntWalk.i64_in _ (by omega)
      have Z2 : ¬ g2 = wr.heap.size := by omega
      clear K1 K2 z1 z2 hDj hu1 hu2
      go_wp2_with fail
      refine (Dequal_same _ _ D k s h _ ((((Rd.of_own O1.out).keep HB.out).keep (below_new _ _)).keep (below_new _ _)) ((((Rd.of_own O2.out).keep HB.out).keep (below_new _ _)).keep (below_new _ _)) DL.out).mono ?_
      rintro e w2 ⟨rfl, hb⟩
      have HB2 : Hid (Below w.heap.size w w2) := Lib.hid (HB.out.trans (((((Below.refl _ _).alloc (Nat.le_refl _) _).alloc (by simp) _).trans (hb.mono (by simp; omega))).mono HB.out.size))
      clear hb HB a0 a1 a2 a3 d0 d1 d2 d3 Z2
      go_wp2_with fail
      go_roundg (Ds.length - j)
      case measure => exact KG.out
      case rel => exact ⟨j + 1, by go_num, ⟨by omega, by omega⟩, HB2⟩
    · go_wp2
      exact bodyPost_ret (v := .bool true) (by simp [results, Try.results88, go_sem, *]) rfl ⟨rfl, HB.out⟩
set_option maxRecDepth 100000 in
set_option maxHeartbeats 6400000 in
theorem rDwin_any (v : Value) (L : List R3) (k s h : Int) (v' : Value) (M : List R3) (k' s' h' : Int) (w : World) (hr : Rd w v L) (hL : Ok3 L) (hr' : Rd w v' M) (hM : Ok3 M) :
    Calls Try.prog 87 #[.agg #[v, .int .i64 k, .int .i64 s, .int .i64 h], .agg #[v', .int .i64 k', .int .i64 s', .int .i64 h']] w (DWinRet L k s h M k' s' h' w) := by
  obtain ⟨ao, cap, rfl, hc⟩ := hr
  obtain ⟨ao', cap', rfl, hc'⟩ := hr'
  have HR : Hid (Rd w (.slice ao L.length cap) L) := Lib.hid ⟨ao, cap, rfl, hc⟩
  have HR' : Hid (Rd w (.slice ao' M.length cap') M) := Lib.hid ⟨ao', cap', rfl, hc'⟩
  have HL := Lib.hid hL
  have HM := Lib.hid hM
  clear hc hL hc' hM
  go_enter Try.func87, Try.ntmps87
  go_wp2_with fail
  refine (rDinter_any _ L k s h _ M k' s' h' _ ((HR.out.keep (below_new _ _)).keep (below_new _ _)) HL.out ((HR'.out.keep (below_new _ _)).keep (below_new _ _)) HM.out).mono ?_
  rintro e w1 ⟨rv, kk, ss, hh, er, rfl, hb1, hE⟩
  have R1 := res44 hb1
  have S0 : ((w.alloc (.cells #[.slice ao L.length cap, .int .i64 k, .int .i64 s, .int .i64 h] 62)).alloc (.cells #[.slice ao' M.length cap', .int .i64 k', .int .i64 s', .int .i64 h'] 62)).heap.size = w.heap.size + 1 + 1 := by simp
  by_cases c : dboth L k s h M k' s' h' = 0
  · have C := Lib.hid c
    obtain ⟨rfl, rfl, rfl, rfl, X, hX, own⟩ : er = 0 ∧ kk = k ∧ ss = s ∧ hh = h ∧ ∃ X, Meets L M X ∧ w1.ownsRow (w.heap.size + 1 + 1) 23 3 rv X.length (cells3 X) := by
      rcases hE.out with ⟨_, h1, h2, h3, h4, X, hX, own⟩ | ⟨h0, _⟩
      · rw [S0] at own
        exact ⟨h1, h2, h3, h4, X, hX, own⟩
      · exact absurd c h0
    have HX := Lib.hid hX
    obtain ⟨ra, rc, rfl⟩ := owns_slice own
    have T2 : Hid (SbSt w (.slice ao L.length cap) kk ss hh (.slice ao' M.length cap') k' s' h' w1.heap.size (.slice ra X.length rc) X (w1.alloc (.cells #[.slice ra X.length rc, .int .i64 kk, .int .i64 ss, .int .i64 hh] 62))) := Lib.hid (by
      have nb := below_new w1 (.cells #[.slice ra X.length rc, .int .i64 kk, .int .i64 ss, .int .i64 hh] 62)
      exact ⟨R1.1.trans (nb.mono R1.1.size), R1.2.1.keep nb, R1.2.2.keep nb, Blk.new _ _ _ _ _ w1, owns_base (owns_below own nb) (by omega), fun g hg => (own.lt g hg).2, R1.2.2.size⟩)
    have ok := Lib.hid (dboth_zero c)
    have rk := Lib.hid (dchk_rank ok.out.1)
    have lx := Lib.hid hX.1
    have UA : Hid (Up L) := Lib.hid (dchk_zero ok.out.1).2.2
    have PL := Lib.hid (dchk_zero ok.out.1).2.1
    have UX : Hid (Up X) := Lib.hid (meets_asc UA.out hX)
    have EX : Hid (dsiz X kk ss hh = prodL X) := Lib.hid (dsiz_of (by have := rk.out; have := lx.out; omega) UX.out PL.out)
    have EL : Hid (dsiz L kk ss hh = prodL L) := Lib.hid (dsiz_of rk.out UA.out PL.out)
    clear hE hb1 R1 S0 own hX c
    go_upto_region 4 with fail
    generalize w1.alloc (.cells #[.slice ra X.length rc, .int .i64 kk, .int .i64 ss, .int .i64 hh] 62) = w2 at *
    generalize w1.heap.size = cb at *
    refine wp_region_held_drew (S := (fun w' => SbSt w (.slice ao L.length cap) kk ss hh (.slice ao' M.length cap') k' s' h' cb (.slice ra X.length rc) X w')) (by kernel_rfl) (T2.out.keep (to_drew (Below.refl _ _))) (fun hHeld => ?_)
    clear T2
    obtain ⟨v0, hv0⟩ : ∃ v0, v0 = w2.drew := ⟨_, rfl⟩
    rw [← hv0] at hHeld ⊢
    clear hv0
    refine wpAnyH_take (i := 0) (oi := { dst := some 17, op := Op.load 62 (Operand.tmp 6), type := 62, pos := "ref.go:256", after := #[], guard := none }) (v := ?_) rfl (by kernel_rfl) (by kernel_rfl) (by kernel_rfl) (fun _ _ _ h => h) (Or.inl ⟨by rfl, ?_⟩) (by assumption) ?_
    rotate_left
    · (intro wq hSw; (try dsimp only at hSw); have a0 := hSw.a.c0; have a1 := hSw.a.c1; have a2 := hSw.a.c2; have a3 := hSw.a.c3; have c0 := hSw.c.c0; have c1 := hSw.c.c1; have c2 := hSw.c.c2; have c3 := hSw.c.c3; clear hSw; go_simp; first | done | with_reducible rfl)
    try simp only [Act.put, List.setIfInBounds_toArray, List.set_cons_zero, List.set_cons_succ]
    refine wpAnyH_take (i := 2) (oi := { dst := some 19, op := Op.load 62 (Operand.tmp 2), type := 62, pos := "ref.go:256", after := #[], guard := none }) (v := ?_) rfl (by kernel_rfl) (by kernel_rfl) (by kernel_rfl) (fun _ _ _ h => h) (Or.inl ⟨by rfl, ?_⟩) (by assumption) ?_
    rotate_left
    · (intro wq hSw; (try dsimp only at hSw); have a0 := hSw.a.c0; have a1 := hSw.a.c1; have a2 := hSw.a.c2; have a3 := hSw.a.c3; have c0 := hSw.c.c0; have c1 := hSw.c.c1; have c2 := hSw.c.c2; have c3 := hSw.c.c3; clear hSw; go_simp; first | done | with_reducible rfl)
    try simp only [Act.put, List.setIfInBounds_toArray, List.set_cons_zero, List.set_cons_succ]
    refine wpAnyH_ready (rs := [1]) (by kernel_rfl) (by simp) ?_
    refine AllReadyH.cons (o := { dst := some 18, op := Op.call { callee := Callee.value (Operand.func 70), args := #[Operand.tmp 17], argTypes := #[62] }, type := 3, pos := "ref.go:256", after := #[{ on := 0, ground := Ground.data }], guard := none }) rfl (fun K hK => ?_) AllReadyH.nil
    go_simp
    refine (rDsize_any _ X kk ss hh _ (Rd.of_own hHeld.row) (asc_ok UX.out)).mono ?_
    rintro e v1 ⟨rfl, hq⟩
    rw [EX.out]
    have hq : Below v0.heap.size v0 v1 := ⟨hq.os, hq.tape, hq.output, hq.size, hq.block⟩
    have hS := hHeld.keep hq
    go_wp2_with fail
    refine hK.out _ _ hS (fun hHeld => ?_)
    clear hK K hHeld
    clear hq
    have hHeld := hS
    clear hS
    try simp only [Act.put, List.setIfInBounds_toArray, List.set_cons_zero, List.set_cons_succ]
    refine wpAnyH_ready (rs := [3]) (by kernel_rfl) (by simp) ?_
    refine AllReadyH.cons (o := { dst := some 20, op := Op.call { callee := Callee.value (Operand.func 70), args := #[Operand.tmp 19], argTypes := #[62] }, type := 3, pos := "ref.go:256", after := #[{ on := 2, ground := Ground.data }, { on := 1, ground := Ground.chain }], guard := none }) rfl (fun K hK => ?_) AllReadyH.nil
    go_simp
    refine (rDsize_any _ L kk ss hh _ (HR.out.keep hHeld.below) HL.out).mono ?_
    rintro e v2 ⟨rfl, hq⟩
    rw [EL.out]
    have hq : Below v1.heap.size v1 v2 := ⟨hq.os, hq.tape, hq.output, hq.size, hq.block⟩
    have hS := hHeld.keep hq
    go_wp2_with fail
    refine hK.out _ _ hS (fun hHeld => ?_)
    clear hK K hHeld
    clear hq
    have hHeld := hS
    clear hS
    try simp only [Act.put, List.setIfInBounds_toArray, List.set_cons_zero, List.set_cons_succ]
    refine wpAnyH_take (i := 4) (oi := { dst := some 21, op := Op.binOp BinOp.eql 3 (Operand.tmp 18) (Operand.tmp 20) 3, type := 4, pos := "ref.go:256", after := #[{ on := 1, ground := Ground.data }, { on := 3, ground := Ground.data }], guard := none }) (v := ?_) rfl (by kernel_rfl) (by kernel_rfl) (by kernel_rfl) (fun _ _ _ h => h) (Or.inl ⟨by rfl, ?_⟩) (by assumption) ?_
    rotate_left
    · (intro wq hSw; (try dsimp only at hSw); have a0 := hSw.a.c0; have a1 := hSw.a.c1; have a2 := hSw.a.c2; have a3 := hSw.a.c3; have c0 := hSw.c.c0; have c1 := hSw.c.c1; have c2 := hSw.c.c2; have c3 := hSw.c.c3; clear hSw; go_simp; first | done | with_reducible rfl)
    try simp only [Act.put, List.setIfInBounds_toArray, List.set_cons_zero, List.set_cons_succ]
    refine wpAnyH_take (i := 5) (oi := { dst := some 4, op := Op.assign (Operand.tmp 21), type := 4, pos := "ref.go:256", after := #[{ on := 4, ground := Ground.data }, { on := 3, ground := Ground.chain }, { on := 0, ground := Ground.phase }, { on := 1, ground := Ground.phase }, { on := 2, ground := Ground.phase }, { on := 3, ground := Ground.phase }, { on := 4, ground := Ground.phase }], guard := none }) (v := ?_) rfl (by kernel_rfl) (by kernel_rfl) (by kernel_rfl) (fun _ _ _ h => h) (Or.inl ⟨by rfl, ?_⟩) (by assumption) ?_
    rotate_left
    · (intro wq hSw; (try dsimp only at hSw); have a0 := hSw.a.c0; have a1 := hSw.a.c1; have a2 := hSw.a.c2; have a3 := hSw.a.c3; have c0 := hSw.c.c0; have c1 := hSw.c.c1; have c2 := hSw.c.c2; have c3 := hSw.c.c3; clear hSw; go_simp; first | done | with_reducible rfl)
    try simp only [Act.put, List.setIfInBounds_toArray, List.set_cons_zero, List.set_cons_succ]
    refine wpAnyH_take (i := 6) (oi := { dst := some 5, op := Op.assign (Operand.const (Value.int IntKind.i64 0)), type := 24, pos := "ref.go:256", after := #[{ on := 5, ground := Ground.chain }, { on := 0, ground := Ground.phase }, { on := 1, ground := Ground.phase }, { on := 2, ground := Ground.phase }, { on := 3, ground := Ground.phase }, { on := 4, ground := Ground.phase }, { on := 5, ground := Ground.phase }], guard := none }) (v := ?_) rfl (by kernel_rfl) (by kernel_rfl) (by kernel_rfl) (fun _ _ _ h => h) (Or.inl ⟨by rfl, ?_⟩) (by assumption) ?_
    rotate_left
    · (intro wq hSw; (try dsimp only at hSw); have a0 := hSw.a.c0; have a1 := hSw.a.c1; have a2 := hSw.a.c2; have a3 := hSw.a.c3; have c0 := hSw.c.c0; have c1 := hSw.c.c1; have c2 := hSw.c.c2; have c3 := hSw.c.c3; clear hSw; go_simp; first | done | with_reducible rfl)
    try simp only [Act.put, List.setIfInBounds_toArray, List.set_cons_zero, List.set_cons_succ]
    refine wpAnyH_done (by kernel_rfl) ?_ _
    have T9 := Lib.hid hHeld
    clear hHeld
    go_wp2
    exact bodyPost_ret (v := .tuple #[.bool (prodL X == prodL L), .int .i64 0]) (by simp [results, Try.results87, go_sem, *]) rfl ⟨_, _, rfl, T9.out.below, Lib.hid (Or.inr ⟨C.out, rfl, X, HX.out, rfl⟩)⟩
  · have c' : (dboth L k s h M k' s' h' != 0) = true := by simp [c]
    have C := Lib.hid c
    obtain ⟨rfl, rfl, rfl, rfl, rfl⟩ : er = dboth L k s h M k' s' h' ∧ rv = .slice none 0 0 ∧ kk = 0 ∧ ss = 0 ∧ hh = 0 := by
      rcases hE.out with ⟨h0, _⟩ | ⟨_, h1, h2, h3, h4, h5⟩
      · exact absurd h0 c
      · exact ⟨h1, h2, h3, h4, h5⟩
    have B1 := Lib.hid R1.1
    clear c hE hb1 R1 S0
    go_wp2
    refine bodyPost_ret (v := .tuple #[.bool false, .int .i64 (dboth L k s h M k' s' h')]) (by simp [results, Try.results87, go_sem, *]) rfl ⟨_, _, rfl, ?_, Lib.hid (Or.inl ⟨C.out, rfl, rfl⟩)⟩
    exact B1.out.trans ((below_new _ _).mono B1.out.size)
/-- the boxes of two domains -/
structure D2S (w : World) (v1 : Value) (k1 s1 h1 : Int) (v2 : Value) (k2 s2 h2 : Int) (wx : World) : Prop where
  below : Below w.heap.size w wx
  a : Blk w.heap.size v1 (.int .i64 k1) (.int .i64 s1) (.int .i64 h1) wx
  b : Blk (w.heap.size + 1) v2 (.int .i64 k2) (.int .i64 s2) (.int .i64 h2) wx
theorem D2S.keep {w : World} {v1 : Value} {k1 s1 h1 : Int} {v2 : Value} {k2 s2 h2 : Int} {wx wy : World} (t : D2S w v1 k1 s1 h1 v2 k2 s2 h2 wx) (hb : Below wx.heap.size wx wy) : D2S w v1 k1 s1 h1 v2 k2 s2 h2 wy :=
  ⟨t.below.trans (hb.mono t.below.size), t.a.keep hb, t.b.keep hb⟩
set_option maxRecDepth 100000 in
set_option maxHeartbeats 6400000 in
theorem rDsame_any (v : Value) (L : List R3) (k s h : Int) (v' : Value) (M : List R3) (k' s' h' : Int) (w : World) (hr : Rd w v L) (hL : Ok3 L) (hr' : Rd w v' M) (hM : Ok3 M) :
    Calls Try.prog 90 #[.agg #[v, .int .i64 k, .int .i64 s, .int .i64 h], .agg #[v', .int .i64 k', .int .i64 s', .int .i64 h']] w fun e w' => e = .returned (.bool (dsame L k s h M k' s' h')) ∧ Below w.heap.size w w' := by
  obtain ⟨ao, cap, rfl, hc⟩ := hr
  obtain ⟨ao', cap', rfl, hc'⟩ := hr'
  have HR : Hid (Rd w (.slice ao L.length cap) L) := Lib.hid ⟨ao, cap, rfl, hc⟩
  have HR' : Hid (Rd w (.slice ao' M.length cap') M) := Lib.hid ⟨ao', cap', rfl, hc'⟩
  have HCC := Lib.hid hc
  have HCC' := Lib.hid hc'
  have HL := Lib.hid hL
  have HM := Lib.hid hM
  clear hc hL hc' hM
  go_enter Try.func90, Try.ntmps90
  go_wp2_with fail
  refine (rpair_any _ L k s h _ M k' s' h' _ ((HR.out.keep (below_new _ _)).keep (below_new _ _)) HL.out ((HR'.out.keep (below_new _ _)).keep (below_new _ _)) HM.out).mono ?_
  rintro e w1 ⟨rfl, hb1⟩
  have R1 := res44 hb1
  have T1 : Hid (D2S w (.slice ao L.length cap) k s h (.slice ao' M.length cap') k' s' h' w1) := Lib.hid ⟨R1.1, R1.2.1, R1.2.2⟩
  clear hb1 R1
  by_cases c : dboth L k s h M k' s' h' = 0
  · have c' : (dboth L k s h M k' s' h' != 0) = false := by simp [c]
    have C := Lib.hid c
    have ok := Lib.hid (dboth_zero c)
    have rk := Lib.hid (dchk_rank ok.out.1)
    have ln := Lib.hid ok.out.2.2
    have EL : Hid (dsiz L k s h = prodL L) := Lib.hid (by unfold dsiz; rw [if_pos ok.out.1])
    have EM : Hid (dsiz M k' s' h' = prodL M) := Lib.hid (by unfold dsiz; rw [if_pos ok.out.2.1])
    clear c
    have x0 := T1.out.a.c0
    have x1 := T1.out.a.c1
    have x2 := T1.out.a.c2
    have x3 := T1.out.a.c3
    go_wp2_with fail
    refine (rDsize_any _ L k s h _ (HR.out.keep T1.out.below) HL.out).mono ?_
    rintro e w2 ⟨rfl, hb2⟩
    rw [EL.out]
    have T2 := Lib.hid (T1.out.keep hb2)
    clear hb2 T1 x0 x1 x2 x3 c'
    by_cases p : prodL L = 0
    · have p' : (prodL L == 0) = true := by simp [p]
      have PL := Lib.hid p
      clear p
      go_upto_region 4 with fail
      clear p'
      have ES : Hid (dsame L k s h M k' s' h' = (prodL L == prodL M)) := Lib.hid (by
        unfold dsame
        rw [C.out, PL.out]
        by_cases m : prodL M = 0
        · simp [m]
        · have n : ¬ L = M := fun e => m (by rw [← e]; exact PL.out)
          have m2 : ((0 : Int) == prodL M) = false := by simp; omega
          simp [m, n, m2])
      refine wp_region_held_drew (S := (fun w' => D2S w (.slice ao L.length cap) k s h (.slice ao' M.length cap') k' s' h' w')) (by kernel_rfl) (T2.out.keep (to_drew (Below.refl _ _))) (fun hHeld => ?_)
      clear T2
      obtain ⟨v0, hv0⟩ : ∃ v0, v0 = w2.drew := ⟨_, rfl⟩
      rw [← hv0] at hHeld ⊢
      clear hv0
      refine wpAnyH_take (i := 0) (oi := { dst := some 18, op := Op.load 62 (Operand.tmp 2), type := 62, pos := "ref.go:265", after := #[], guard := none }) (v := ?_) rfl (by kernel_rfl) (by kernel_rfl) (by kernel_rfl) (fun _ _ _ h => h) (Or.inl ⟨by rfl, ?_⟩) (by assumption) ?_
      rotate_left
      · (intro wq hSw; (try dsimp only at hSw); have a0 := hSw.a.c0; have a1 := hSw.a.c1; have a2 := hSw.a.c2; have a3 := hSw.a.c3; have b0 := hSw.b.c0; have b1 := hSw.b.c1; have b2 := hSw.b.c2; have b3 := hSw.b.c3; clear hSw; go_simp; first | done | with_reducible rfl)
      try simp only [Act.put, List.setIfInBounds_toArray, List.set_cons_zero, List.set_cons_succ]
      refine wpAnyH_take (i := 2) (oi := { dst := some 20, op := Op.load 62 (Operand.tmp 3), type := 62, pos := "ref.go:265", after := #[], guard := none }) (v := ?_) rfl (by kernel_rfl) (by kernel_rfl) (by kernel_rfl) (fun _ _ _ h => h) (Or.inl ⟨by rfl, ?_⟩) (by assumption) ?_
      rotate_left
      · (intro wq hSw; (try dsimp only at hSw); have a0 := hSw.a.c0; have a1 := hSw.a.c1; have a2 := hSw.a.c2; have a3 := hSw.a.c3; have b0 := hSw.b.c0; have b1 := hSw.b.c1; have b2 := hSw.b.c2; have b3 := hSw.b.c3; clear hSw; go_simp; first | done | with_reducible rfl)
      try simp only [Act.put, List.setIfInBounds_toArray, List.set_cons_zero, List.set_cons_succ]
      refine wpAnyH_ready (rs := [1]) (by kernel_rfl) (by simp) ?_
      refine AllReadyH.cons (o := { dst := some 19, op := Op.call { callee := Callee.value (Operand.func 70), args := #[Operand.tmp 18], argTypes := #[62] }, type := 3, pos := "ref.go:265", after := #[{ on := 0, ground := Ground.data }], guard := none }) rfl (fun K hK => ?_) AllReadyH.nil
      go_simp
      refine (rDsize_any _ L k s h _ (HR.out.keep hHeld.below) HL.out).mono ?_
      rintro e v1 ⟨rfl, hq⟩
      rw [EL.out]
      have hq : Below v0.heap.size v0 v1 := ⟨hq.os, hq.tape, hq.output, hq.size, hq.block⟩
      have hS := hHeld.keep hq
      go_wp2_with fail
      refine hK.out _ _ hS (fun hHeld => ?_)
      clear hK K hHeld
      clear hq
      have hHeld := hS
      clear hS
      try simp only [Act.put, List.setIfInBounds_toArray, List.set_cons_zero, List.set_cons_succ]
      refine wpAnyH_ready (rs := [3]) (by kernel_rfl) (by simp) ?_
      refine AllReadyH.cons (o := { dst := some 21, op := Op.call { callee := Callee.value (Operand.func 70), args := #[Operand.tmp 20], argTypes := #[62] }, type := 3, pos := "ref.go:265", after := #[{ on := 2, ground := Ground.data }, { on := 1, ground := Ground.chain }], guard := none }) rfl (fun K hK => ?_) AllReadyH.nil
      go_simp
      refine (rDsize_any _ M k' s' h' _ (HR'.out.keep hHeld.below) HM.out).mono ?_
      rintro e v2 ⟨rfl, hq⟩
      rw [EM.out]
      have hq : Below v1.heap.size v1 v2 := ⟨hq.os, hq.tape, hq.output, hq.size, hq.block⟩
      have hS := hHeld.keep hq
      go_wp2_with fail
      refine hK.out _ _ hS (fun hHeld => ?_)
      clear hK K hHeld
      clear hq
      have hHeld := hS
      clear hS
      try simp only [Act.put, List.setIfInBounds_toArray, List.set_cons_zero, List.set_cons_succ]
      refine wpAnyH_take (i := 4) (oi := { dst := some 22, op := Op.binOp BinOp.eql 3 (Operand.tmp 19) (Operand.tmp 21) 3, type := 4, pos := "ref.go:265", after := #[{ on := 1, ground := Ground.data }, { on := 3, ground := Ground.data }], guard := none }) (v := ?_) rfl (by kernel_rfl) (by kernel_rfl) (by kernel_rfl) (fun _ _ _ h => h) (Or.inl ⟨by rfl, ?_⟩) (by assumption) ?_
      rotate_left
      · (intro wq hSw; (try dsimp only at hSw); have a0 := hSw.a.c0; have a1 := hSw.a.c1; have a2 := hSw.a.c2; have a3 := hSw.a.c3; have b0 := hSw.b.c0; have b1 := hSw.b.c1; have b2 := hSw.b.c2; have b3 := hSw.b.c3; clear hSw; go_simp; first | done | with_reducible rfl)
      try simp only [Act.put, List.setIfInBounds_toArray, List.set_cons_zero, List.set_cons_succ]
      refine wpAnyH_take (i := 5) (oi := { dst := some 4, op := Op.assign (Operand.tmp 22), type := 4, pos := "ref.go:265", after := #[{ on := 4, ground := Ground.data }, { on := 3, ground := Ground.chain }, { on := 0, ground := Ground.phase }, { on := 1, ground := Ground.phase }, { on := 2, ground := Ground.phase }, { on := 3, ground := Ground.phase }, { on := 4, ground := Ground.phase }], guard := none }) (v := ?_) rfl (by kernel_rfl) (by kernel_rfl) (by kernel_rfl) (fun _ _ _ h => h) (Or.inl ⟨by rfl, ?_⟩) (by assumption) ?_
      rotate_left
      · (intro wq hSw; (try dsimp only at hSw); have a0 := hSw.a.c0; have a1 := hSw.a.c1; have a2 := hSw.a.c2; have a3 := hSw.a.c3; have b0 := hSw.b.c0; have b1 := hSw.b.c1; have b2 := hSw.b.c2; have b3 := hSw.b.c3; clear hSw; go_simp; first | done | with_reducible rfl)
      try simp only [Act.put, List.setIfInBounds_toArray, List.set_cons_zero, List.set_cons_succ]
      refine wpAnyH_done (by kernel_rfl) ?_ _
      have T9 := Lib.hid hHeld
      clear hHeld
      go_wp2
      rw [ES.out]
      exact bodyPost_ret (v := .bool (prodL L == prodL M)) (by simp [results, Try.results90, go_sem, *]) rfl ⟨rfl, T9.out.below⟩
    · have p' : (prodL L == 0) = false := by simp [p]
      have PL := Lib.hid p
      clear p
      have y0 := T2.out.b.c0
      have y1 := T2.out.b.c1
      have y2 := T2.out.b.c2
      have y3 := T2.out.b.c3
      go_wp2_with fail
      refine (rDsize_any _ M k' s' h' _ (HR'.out.keep T2.out.below) HM.out).mono ?_
      rintro e w3 ⟨rfl, hb3⟩
      rw [EM.out]
      have T3 := Lib.hid (T2.out.keep hb3)
      clear hb3 T2 y0 y1 y2 y3
      by_cases q : prodL M = 0
      · have q' : (prodL M == 0) = true := by simp [q]
        have PM := Lib.hid q
        clear q
        go_upto_region 4 with fail
        clear q' p'
        have ES : Hid (dsame L k s h M k' s' h' = (prodL L == prodL M)) := Lib.hid (by
          unfold dsame
          rw [C.out, PM.out]
          have n : ¬ L = M := fun e => PL.out (by rw [e]; exact PM.out)
          simp [PL.out, n])
        refine wp_region_held_drew (S := (fun w' => D2S w (.slice ao L.length cap) k s h (.slice ao' M.length cap') k' s' h' w')) (by kernel_rfl) (T3.out.keep (to_drew (Below.refl _ _))) (fun hHeld => ?_)
        clear T3
        obtain ⟨v0, hv0⟩ : ∃ v0, v0 = w3.drew := ⟨_, rfl⟩
        rw [← hv0] at hHeld ⊢
        clear hv0
        refine wpAnyH_take (i := 0) (oi := { dst := some 18, op := Op.load 62 (Operand.tmp 2), type := 62, pos := "ref.go:265", after := #[], guard := none }) (v := ?_) rfl (by kernel_rfl) (by kernel_rfl) (by kernel_rfl) (fun _ _ _ h => h) (Or.inl ⟨by rfl, ?_⟩) (by assumption) ?_
        rotate_left
        · (intro wq hSw; (try dsimp only at hSw); have a0 := hSw.a.c0; have a1 := hSw.a.c1; have a2 := hSw.a.c2; have a3 := hSw.a.c3; have b0 := hSw.b.c0; have b1 := hSw.b.c1; have b2 := hSw.b.c2; have b3 := hSw.b.c3; clear hSw; go_simp; first | done | with_reducible rfl)
        try simp only [Act.put, List.setIfInBounds_toArray, List.set_cons_zero, List.set_cons_succ]
        refine wpAnyH_take (i := 2) (oi := { dst := some 20, op := Op.load 62 (Operand.tmp 3), type := 62, pos := "ref.go:265", after := #[], guard := none }) (v := ?_) rfl (by kernel_rfl) (by kernel_rfl) (by kernel_rfl) (fun _ _ _ h => h) (Or.inl ⟨by rfl, ?_⟩) (by assumption) ?_
        rotate_left
        · (intro wq hSw; (try dsimp only at hSw); have a0 := hSw.a.c0; have a1 := hSw.a.c1; have a2 := hSw.a.c2; have a3 := hSw.a.c3; have b0 := hSw.b.c0; have b1 := hSw.b.c1; have b2 := hSw.b.c2; have b3 := hSw.b.c3; clear hSw; go_simp; first | done | with_reducible rfl)
        try simp only [Act.put, List.setIfInBounds_toArray, List.set_cons_zero, List.set_cons_succ]
        refine wpAnyH_ready (rs := [1]) (by kernel_rfl) (by simp) ?_
        refine AllReadyH.cons (o := { dst := some 19, op := Op.call { callee := Callee.value (Operand.func 70), args := #[Operand.tmp 18], argTypes := #[62] }, type := 3, pos := "ref.go:265", after := #[{ on := 0, ground := Ground.data }], guard := none }) rfl (fun K hK => ?_) AllReadyH.nil
        go_simp
        refine (rDsize_any _ L k s h _ (HR.out.keep hHeld.below) HL.out).mono ?_
        rintro e v1 ⟨rfl, hq⟩
        rw [EL.out]
        have hq : Below v0.heap.size v0 v1 := ⟨hq.os, hq.tape, hq.output, hq.size, hq.block⟩
        have hS := hHeld.keep hq
        go_wp2_with fail
        refine hK.out _ _ hS (fun hHeld => ?_)
        clear hK K hHeld
        clear hq
        have hHeld := hS
        clear hS
        try simp only [Act.put, List.setIfInBounds_toArray, List.set_cons_zero, List.set_cons_succ]
        refine wpAnyH_ready (rs := [3]) (by kernel_rfl) (by simp) ?_
        refine AllReadyH.cons (o := { dst := some 21, op := Op.call { callee := Callee.value (Operand.func 70), args := #[Operand.tmp 20], argTypes := #[62] }, type := 3, pos := "ref.go:265", after := #[{ on := 2, ground := Ground.data }, { on := 1, ground := Ground.chain }], guard := none }) rfl (fun K hK => ?_) AllReadyH.nil
        go_simp
        refine (rDsize_any _ M k' s' h' _ (HR'.out.keep hHeld.below) HM.out).mono ?_
        rintro e v2 ⟨rfl, hq⟩
        rw [EM.out]
        have hq : Below v1.heap.size v1 v2 := ⟨hq.os, hq.tape, hq.output, hq.size, hq.block⟩
        have hS := hHeld.keep hq
        go_wp2_with fail
        refine hK.out _ _ hS (fun hHeld => ?_)
        clear hK K hHeld
        clear hq
        have hHeld := hS
        clear hS
        try simp only [Act.put, List.setIfInBounds_toArray, List.set_cons_zero, List.set_cons_succ]
        refine wpAnyH_take (i := 4) (oi := { dst := some 22, op := Op.binOp BinOp.eql 3 (Operand.tmp 19) (Operand.tmp 21) 3, type := 4, pos := "ref.go:265", after := #[{ on := 1, ground := Ground.data }, { on := 3, ground := Ground.data }], guard := none }) (v := ?_) rfl (by kernel_rfl) (by kernel_rfl) (by kernel_rfl) (fun _ _ _ h => h) (Or.inl ⟨by rfl, ?_⟩) (by assumption) ?_
        rotate_left
        · (intro wq hSw; (try dsimp only at hSw); have a0 := hSw.a.c0; have a1 := hSw.a.c1; have a2 := hSw.a.c2; have a3 := hSw.a.c3; have b0 := hSw.b.c0; have b1 := hSw.b.c1; have b2 := hSw.b.c2; have b3 := hSw.b.c3; clear hSw; go_simp; first | done | with_reducible rfl)
        try simp only [Act.put, List.setIfInBounds_toArray, List.set_cons_zero, List.set_cons_succ]
        refine wpAnyH_take (i := 5) (oi := { dst := some 4, op := Op.assign (Operand.tmp 22), type := 4, pos := "ref.go:265", after := #[{ on := 4, ground := Ground.data }, { on := 3, ground := Ground.chain }, { on := 0, ground := Ground.phase }, { on := 1, ground := Ground.phase }, { on := 2, ground := Ground.phase }, { on := 3, ground := Ground.phase }, { on := 4, ground := Ground.phase }], guard := none }) (v := ?_) rfl (by kernel_rfl) (by kernel_rfl) (by kernel_rfl) (fun _ _ _ h => h) (Or.inl ⟨by rfl, ?_⟩) (by assumption) ?_
        rotate_left
        · (intro wq hSw; (try dsimp only at hSw); have a0 := hSw.a.c0; have a1 := hSw.a.c1; have a2 := hSw.a.c2; have a3 := hSw.a.c3; have b0 := hSw.b.c0; have b1 := hSw.b.c1; have b2 := hSw.b.c2; have b3 := hSw.b.c3; clear hSw; go_simp; first | done | with_reducible rfl)
        try simp only [Act.put, List.setIfInBounds_toArray, List.set_cons_zero, List.set_cons_succ]
        refine wpAnyH_done (by kernel_rfl) ?_ _
        have T9 := Lib.hid hHeld
        clear hHeld
        go_wp2
        rw [ES.out]
        exact bodyPost_ret (v := .bool (prodL L == prodL M)) (by simp [results, Try.results90, go_sem, *]) rfl ⟨rfl, T9.out.below⟩
      · have q' : (prodL M == 0) = false := by simp [q]
        have E : Hid (dsame L k s h M k' s' h' = decide (L = M)) := Lib.hid (by unfold dsame; simp [C.out, PL.out])
        clear q
        obtain ⟨b1, o1, rfl, z1, A1⟩ := HCC.out.resolve_left (by have := rk.out; omega)
        obtain ⟨b2, o2, rfl, z2, A2⟩ := HCC'.out.resolve_left (by have := rk.out; have := ln.out; omega)
        have H1 := Lib.hid A1
        have H2 := Lib.hid A2
        have n2 : (L.length : Int) ≤ 2 := by have := rk.out; omega
        have m2 : (M.length : Int) ≤ 2 := by have := rk.out; have := ln.out; omega
        clear A1 A2 HCC HCC'
        go_wp2_with fail
        go_loopg [5] (L.length + 1) (fun gh v5 wr => ∃ j : Nat, v5 = .int .i64 j ∧ (j ≤ L.length ∧ L.length - j < gh) ∧ Hid (L.take j = M.take j) ∧ Hid (D2S w (.slice (some ⟨b1, o1, none⟩) L.length cap) k s h (.slice (some ⟨b2, o2, none⟩) M.length cap') k' s' h' wr))
        case atStart => exact ⟨0, rfl, ⟨by omega, by omega⟩, Lib.hid rfl, T3⟩
        case round =>
          obtain ⟨j, rfl, ⟨j0, jg⟩, TK, T4⟩ := hrel
          have KG := Lib.hid jg
          clear jg p' q'
          by_cases hj : j < L.length
          · have hj2 : j < M.length := by have := ln.out; omega
            have jw : IntKind.i64.wrap ((j : Int) + 1) = (j : Int) + 1 := IntWalk.i64_in _ (by omega)
            obtain ⟨x, hx⟩ : ∃ x, L[j]? = some x := ⟨L[j], List.getElem?_eq_getElem hj⟩
            obtain ⟨y, hy⟩ : ∃ y, M[j]? = some y := ⟨M[j], List.getElem?_eq_getElem hj2⟩
            have PX := Lib.hid (H1.out j x hx)
            have PY := Lib.hid (H2.out j y hy)
            have NX : Hid (x = y → L.take (j + 1) = M.take (j + 1)) := Lib.hid (fun e => by rw [List.take_add_one, List.take_add_one, TK.out, hx, hy, e])
            have NY : Hid (¬ x = y → decide (L = M) = false) := Lib.hid (fun e => decide_eq_false fun h => e (by rw [h, hy] at hx; cases hx; rfl))
            have ne := neq_range x.1 x.2.1 x.2.2 y.1 y.2.1 y.2.2
            clear hx hy
            have d0 := T4.out.a.c0
            go_upto_region 8 with fail
            refine wp_region_held_drew (S := (fun w' => D2S w (.slice (some ⟨b1, o1, none⟩) L.length cap) k s h (.slice (some ⟨b2, o2, none⟩) M.length cap') k' s' h' w')) (by kernel_rfl) (T4.out.keep (to_drew (Below.refl _ _))) (fun hHeld => ?_)
            clear T4 d0
            obtain ⟨v0, hv0⟩ : ∃ v0, v0 = wr.drew := ⟨_, rfl⟩
            rw [← hv0] at hHeld ⊢
            clear hv0
            by_cases e : x = y
            · have rq : reqB x.1 x.2.1 x.2.2 y.1 y.2.1 y.2.2 = true := reqB_iff.2 ⟨by rw [e], by rw [e], by rw [e]⟩
              rw [rq] at ne
              have NN := Lib.hid (NX.out e)
              clear e rq
              refine wpAnyH_take (i := 0) (oi := { dst := some 30, op := Op.fieldAddr 62 (Operand.tmp 2) 0, type := 0, pos := "ref.go:268", after := #[], guard := none }) (v := ?_) rfl (by kernel_rfl) (by kernel_rfl) (by kernel_rfl) (fun _ _ _ h => h) (Or.inl ⟨by rfl, ?_⟩) (by assumption) ?_
              rotate_left
              · (intro wq hSw; (try dsimp only at hSw); have a0 := hSw.a.c0; have b0 := hSw.b.c0; have p0 := (hSw.below.cell (p := ⟨b1, o1 + j * 3, none⟩) z1).trans PX.out.1; have q0 := (hSw.below.cell (p := ⟨b2, o2 + j * 3, none⟩) z2).trans PY.out.1; have p1 := (hSw.below.cell (p := ⟨b1, o1 + j * 3 + 1, none⟩) z1).trans PX.out.2.1; have q1 := (hSw.below.cell (p := ⟨b2, o2 + j * 3 + 1, none⟩) z2).trans PY.out.2.1; have p2 := (hSw.below.cell (p := ⟨b1, o1 + j * 3 + 2, none⟩) z1).trans PX.out.2.2; have q2 := (hSw.below.cell (p := ⟨b2, o2 + j * 3 + 2, none⟩) z2).trans PY.out.2.2; clear hSw; go_simp; first | done | with_reducible rfl)
              try simp only [Act.put, List.setIfInBounds_toArray, List.set_cons_zero, List.set_cons_succ]
              refine wpAnyH_take (i := 1) (oi := { dst := some 31, op := Op.load 40 (Operand.tmp 30), type := 40, pos := "ref.go:268", after := #[{ on := 0, ground := Ground.data }], guard := none }) (v := ?_) rfl (by kernel_rfl) (by kernel_rfl) (by kernel_rfl) (fun _ _ _ h => h) (Or.inl ⟨by rfl, ?_⟩) (by assumption) ?_
              rotate_left
              · (intro wq hSw; (try dsimp only at hSw); have a0 := hSw.a.c0; have b0 := hSw.b.c0; have p0 := (hSw.below.cell (p := ⟨b1, o1 + j * 3, none⟩) z1).trans PX.out.1; have q0 := (hSw.below.cell (p := ⟨b2, o2 + j * 3, none⟩) z2).trans PY.out.1; have p1 := (hSw.below.cell (p := ⟨b1, o1 + j * 3 + 1, none⟩) z1).trans PX.out.2.1; have q1 := (hSw.below.cell (p := ⟨b2, o2 + j * 3 + 1, none⟩) z2).trans PY.out.2.1; have p2 := (hSw.below.cell (p := ⟨b1, o1 + j * 3 + 2, none⟩) z1).trans PX.out.2.2; have q2 := (hSw.below.cell (p := ⟨b2, o2 + j * 3 + 2, none⟩) z2).trans PY.out.2.2; clear hSw; go_simp; first | done | with_reducible rfl)
              try simp only [Act.put, List.setIfInBounds_toArray, List.set_cons_zero, List.set_cons_succ]
              refine wpAnyH_take (i := 2) (oi := { dst := some 32, op := Op.move (Operand.tmp 5), type := 3, pos := "ref.go:268", after := #[], guard := none }) (v := ?_) rfl (by kernel_rfl) (by kernel_rfl) (by kernel_rfl) (fun _ _ _ h => h) (Or.inl ⟨by rfl, ?_⟩) (by assumption) ?_
              rotate_left
              · (intro wq hSw; (try dsimp only at hSw); have a0 := hSw.a.c0; have b0 := hSw.b.c0; have p0 := (hSw.below.cell (p := ⟨b1, o1 + j * 3, none⟩) z1).trans PX.out.1; have q0 := (hSw.below.cell (p := ⟨b2, o2 + j * 3, none⟩) z2).trans PY.out.1; have p1 := (hSw.below.cell (p := ⟨b1, o1 + j * 3 + 1, none⟩) z1).trans PX.out.2.1; have q1 := (hSw.below.cell (p := ⟨b2, o2 + j * 3 + 1, none⟩) z2).trans PY.out.2.1; have p2 := (hSw.below.cell (p := ⟨b1, o1 + j * 3 + 2, none⟩) z1).trans PX.out.2.2; have q2 := (hSw.below.cell (p := ⟨b2, o2 + j * 3 + 2, none⟩) z2).trans PY.out.2.2; clear hSw; go_simp; first | done | with_reducible rfl)
              try simp only [Act.put, List.setIfInBounds_toArray, List.set_cons_zero, List.set_cons_succ]
              refine wpAnyH_take (i := 3) (oi := { dst := some 33, op := Op.indexAddr 40 (Operand.tmp 31) (Operand.tmp 32), type := 0, pos := "ref.go:268", after := #[{ on := 1, ground := Ground.data }, { on := 2, ground := Ground.data }], guard := none }) (v := ?_) rfl (by kernel_rfl) (by kernel_rfl) (by kernel_rfl) (fun _ _ _ h => h) (Or.inl ⟨by rfl, ?_⟩) (by assumption) ?_
              rotate_left
              · (intro wq hSw; (try dsimp only at hSw); have a0 := hSw.a.c0; have b0 := hSw.b.c0; have p0 := (hSw.below.cell (p := ⟨b1, o1 + j * 3, none⟩) z1).trans PX.out.1; have q0 := (hSw.below.cell (p := ⟨b2, o2 + j * 3, none⟩) z2).trans PY.out.1; have p1 := (hSw.below.cell (p := ⟨b1, o1 + j * 3 + 1, none⟩) z1).trans PX.out.2.1; have q1 := (hSw.below.cell (p := ⟨b2, o2 + j * 3 + 1, none⟩) z2).trans PY.out.2.1; have p2 := (hSw.below.cell (p := ⟨b1, o1 + j * 3 + 2, none⟩) z1).trans PX.out.2.2; have q2 := (hSw.below.cell (p := ⟨b2, o2 + j * 3 + 2, none⟩) z2).trans PY.out.2.2; clear hSw; go_simp; first | done | with_reducible rfl)
              try simp only [Act.put, List.setIfInBounds_toArray, List.set_cons_zero, List.set_cons_succ]
              refine wpAnyH_take (i := 4) (oi := { dst := some 34, op := Op.load 23 (Operand.tmp 33), type := 23, pos := "ref.go:268", after := #[{ on := 3, ground := Ground.data }], guard := none }) (v := ?_) rfl (by kernel_rfl) (by kernel_rfl) (by kernel_rfl) (fun _ _ _ h => h) (Or.inl ⟨by rfl, ?_⟩) (by assumption) ?_
              rotate_left
              · (intro wq hSw; (try dsimp only at hSw); have a0 := hSw.a.c0; have b0 := hSw.b.c0; have p0 := (hSw.below.cell (p := ⟨b1, o1 + j * 3, none⟩) z1).trans PX.out.1; have q0 := (hSw.below.cell (p := ⟨b2, o2 + j * 3, none⟩) z2).trans PY.out.1; have p1 := (hSw.below.cell (p := ⟨b1, o1 + j * 3 + 1, none⟩) z1).trans PX.out.2.1; have q1 := (hSw.below.cell (p := ⟨b2, o2 + j * 3 + 1, none⟩) z2).trans PY.out.2.1; have p2 := (hSw.below.cell (p := ⟨b1, o1 + j * 3 + 2, none⟩) z1).trans PX.out.2.2; have q2 := (hSw.below.cell (p := ⟨b2, o2 + j * 3 + 2, none⟩) z2).trans PY.out.2.2; clear hSw; go_simp; first | done | with_reducible rfl)
              try simp only [Act.put, List.setIfInBounds_toArray, List.set_cons_zero, List.set_cons_succ]
              refine wpAnyH_take (i := 5) (oi := { dst := some 35, op := Op.fieldAddr 62 (Operand.tmp 3) 0, type := 0, pos := "ref.go:268", after := #[], guard := none }) (v := ?_) rfl (by kernel_rfl) (by kernel_rfl) (by kernel_rfl) (fun _ _ _ h => h) (Or.inl ⟨by rfl, ?_⟩) (by assumption) ?_
              rotate_left
              · (intro wq hSw; (try dsimp only at hSw); have a0 := hSw.a.c0; have b0 := hSw.b.c0; have p0 := (hSw.below.cell (p := ⟨b1, o1 + j * 3, none⟩) z1).trans PX.out.1; have q0 := (hSw.below.cell (p := ⟨b2, o2 + j * 3, none⟩) z2).trans PY.out.1; have p1 := (hSw.below.cell (p := ⟨b1, o1 + j * 3 + 1, none⟩) z1).trans PX.out.2.1; have q1 := (hSw.below.cell (p := ⟨b2, o2 + j * 3 + 1, none⟩) z2).trans PY.out.2.1; have p2 := (hSw.below.cell (p := ⟨b1, o1 + j * 3 + 2, none⟩) z1).trans PX.out.2.2; have q2 := (hSw.below.cell (p := ⟨b2, o2 + j * 3 + 2, none⟩) z2).trans PY.out.2.2; clear hSw; go_simp; first | done | with_reducible rfl)
              try simp only [Act.put, List.setIfInBounds_toArray, List.set_cons_zero, List.set_cons_succ]
              refine wpAnyH_take (i := 6) (oi := { dst := some 36, op := Op.load 40 (Operand.tmp 35), type := 40, pos := "ref.go:268", after := #[{ on := 5, ground := Ground.data }], guard := none }) (v := ?_) rfl (by kernel_rfl) (by kernel_rfl) (by kernel_rfl) (fun _ _ _ h => h) (Or.inl ⟨by rfl, ?_⟩) (by assumption) ?_
              rotate_left
              · (intro wq hSw; (try dsimp only at hSw); have a0 := hSw.a.c0; have b0 := hSw.b.c0; have p0 := (hSw.below.cell (p := ⟨b1, o1 + j * 3, none⟩) z1).trans PX.out.1; have q0 := (hSw.below.cell (p := ⟨b2, o2 + j * 3, none⟩) z2).trans PY.out.1; have p1 := (hSw.below.cell (p := ⟨b1, o1 + j * 3 + 1, none⟩) z1).trans PX.out.2.1; have q1 := (hSw.below.cell (p := ⟨b2, o2 + j * 3 + 1, none⟩) z2).trans PY.out.2.1; have p2 := (hSw.below.cell (p := ⟨b1, o1 + j * 3 + 2, none⟩) z1).trans PX.out.2.2; have q2 := (hSw.below.cell (p := ⟨b2, o2 + j * 3 + 2, none⟩) z2).trans PY.out.2.2; clear hSw; go_simp; first | done | with_reducible rfl)
              try simp only [Act.put, List.setIfInBounds_toArray, List.set_cons_zero, List.set_cons_succ]
              refine wpAnyH_take (i := 7) (oi := { dst := some 37, op := Op.move (Operand.tmp 5), type := 3, pos := "ref.go:268", after := #[], guard := none }) (v := ?_) rfl (by kernel_rfl) (by kernel_rfl) (by kernel_rfl) (fun _ _ _ h => h) (Or.inl ⟨by rfl, ?_⟩) (by assumption) ?_
              rotate_left
              · (intro wq hSw; (try dsimp only at hSw); have a0 := hSw.a.c0; have b0 := hSw.b.c0; have p0 := (hSw.below.cell (p := ⟨b1, o1 + j * 3, none⟩) z1).trans PX.out.1; have q0 := (hSw.below.cell (p := ⟨b2, o2 + j * 3, none⟩) z2).trans PY.out.1; have p1 := (hSw.below.cell (p := ⟨b1, o1 + j * 3 + 1, none⟩) z1).trans PX.out.2.1; have q1 := (hSw.below.cell (p := ⟨b2, o2 + j * 3 + 1, none⟩) z2).trans PY.out.2.1; have p2 := (hSw.below.cell (p := ⟨b1, o1 + j * 3 + 2, none⟩) z1).trans PX.out.2.2; have q2 := (hSw.below.cell (p := ⟨b2, o2 + j * 3 + 2, none⟩) z2).trans PY.out.2.2; clear hSw; go_simp; first | done | with_reducible rfl)
              try simp only [Act.put, List.setIfInBounds_toArray, List.set_cons_zero, List.set_cons_succ]
              refine wpAnyH_take (i := 8) (oi := { dst := some 38, op := Op.indexAddr 40 (Operand.tmp 36) (Operand.tmp 37), type := 0, pos := "ref.go:268", after := #[{ on := 6, ground := Ground.data }, { on := 7, ground := Ground.data }], guard := none }) (v := ?_) rfl (by kernel_rfl) (by kernel_rfl) (by kernel_rfl) (fun _ _ _ h => h) (Or.inl ⟨by rfl, ?_⟩) (by assumption) ?_
              rotate_left
              · (intro wq hSw; (try dsimp only at hSw); have a0 := hSw.a.c0; have b0 := hSw.b.c0; have p0 := (hSw.below.cell (p := ⟨b1, o1 + j * 3, none⟩) z1).trans PX.out.1; have q0 := (hSw.below.cell (p := ⟨b2, o2 + j * 3, none⟩) z2).trans PY.out.1; have p1 := (hSw.below.cell (p := ⟨b1, o1 + j * 3 + 1, none⟩) z1).trans PX.out.2.1; have q1 := (hSw.below.cell (p := ⟨b2, o2 + j * 3 + 1, none⟩) z2).trans PY.out.2.1; have p2 := (hSw.below.cell (p := ⟨b1, o1 + j * 3 + 2, none⟩) z1).trans PX.out.2.2; have q2 := (hSw.below.cell (p := ⟨b2, o2 + j * 3 + 2, none⟩) z2).trans PY.out.2.2; clear hSw; go_simp; first | done | with_reducible rfl)
              try simp only [Act.put, List.setIfInBounds_toArray, List.set_cons_zero, List.set_cons_succ]
              refine wpAnyH_take (i := 9) (oi := { dst := some 39, op := Op.load 23 (Operand.tmp 38), type := 23, pos := "ref.go:268", after := #[{ on := 8, ground := Ground.data }], guard := none }) (v := ?_) rfl (by kernel_rfl) (by kernel_rfl) (by kernel_rfl) (fun _ _ _ h => h) (Or.inl ⟨by rfl, ?_⟩) (by assumption) ?_
              rotate_left
              · (intro wq hSw; (try dsimp only at hSw); have a0 := hSw.a.c0; have b0 := hSw.b.c0; have p0 := (hSw.below.cell (p := ⟨b1, o1 + j * 3, none⟩) z1).trans PX.out.1; have q0 := (hSw.below.cell (p := ⟨b2, o2 + j * 3, none⟩) z2).trans PY.out.1; have p1 := (hSw.below.cell (p := ⟨b1, o1 + j * 3 + 1, none⟩) z1).trans PX.out.2.1; have q1 := (hSw.below.cell (p := ⟨b2, o2 + j * 3 + 1, none⟩) z2).trans PY.out.2.1; have p2 := (hSw.below.cell (p := ⟨b1, o1 + j * 3 + 2, none⟩) z1).trans PX.out.2.2; have q2 := (hSw.below.cell (p := ⟨b2, o2 + j * 3 + 2, none⟩) z2).trans PY.out.2.2; clear hSw; go_simp; first | done | with_reducible rfl)
              try simp only [Act.put, List.setIfInBounds_toArray, List.set_cons_zero, List.set_cons_succ]
              refine wpAnyH_take (i := 10) (oi := { dst := some 40, op := Op.binOp BinOp.neq 23 (Operand.tmp 34) (Operand.tmp 39) 23, type := 4, pos := "ref.go:268", after := #[{ on := 4, ground := Ground.data }, { on := 9, ground := Ground.data }], guard := none }) (v := ?_) rfl (by kernel_rfl) (by kernel_rfl) (by kernel_rfl) (fun _ _ _ h => h) (Or.inl ⟨by rfl, ?_⟩) (by assumption) ?_
              rotate_left
              · (intro wq hSw; (try dsimp only at hSw); have a0 := hSw.a.c0; have b0 := hSw.b.c0; have p0 := (hSw.below.cell (p := ⟨b1, o1 + j * 3, none⟩) z1).trans PX.out.1; have q0 := (hSw.below.cell (p := ⟨b2, o2 + j * 3, none⟩) z2).trans PY.out.1; have p1 := (hSw.below.cell (p := ⟨b1, o1 + j * 3 + 1, none⟩) z1).trans PX.out.2.1; have q1 := (hSw.below.cell (p := ⟨b2, o2 + j * 3 + 1, none⟩) z2).trans PY.out.2.1; have p2 := (hSw.below.cell (p := ⟨b1, o1 + j * 3 + 2, none⟩) z1).trans PX.out.2.2; have q2 := (hSw.below.cell (p := ⟨b2, o2 + j * 3 + 2, none⟩) z2).trans PY.out.2.2; clear hSw; go_simp; first | done | with_reducible rfl)
              try simp only [Act.put, List.setIfInBounds_toArray, List.set_cons_zero, List.set_cons_succ]
              refine wpAnyH_done (by kernel_rfl) ?_ _
              have T5 := Lib.hid hHeld
              clear hHeld ne
              go_wp2_with fail
              go_roundg (L.length - j)
              case measure => exact KG.out
              case rel => exact ⟨j + 1, by go_num, ⟨by omega, by omega⟩, NN, T5⟩
            · have rq := reqB_ne e
              rw [rq] at ne
              have NN := Lib.hid (NY.out e)
              clear e rq
              refine wpAnyH_take (i := 0) (oi := { dst := some 30, op := Op.fieldAddr 62 (Operand.tmp 2) 0, type := 0, pos := "ref.go:268", after := #[], guard := none }) (v := ?_) rfl (by kernel_rfl) (by kernel_rfl) (by kernel_rfl) (fun _ _ _ h => h) (Or.inl ⟨by rfl, ?_⟩) (by assumption) ?_
              rotate_left
              · (intro wq hSw; (try dsimp only at hSw); have a0 := hSw.a.c0; have b0 := hSw.b.c0; have p0 := (hSw.below.cell (p := ⟨b1, o1 + j * 3, none⟩) z1).trans PX.out.1; have q0 := (hSw.below.cell (p := ⟨b2, o2 + j * 3, none⟩) z2).trans PY.out.1; have p1 := (hSw.below.cell (p := ⟨b1, o1 + j * 3 + 1, none⟩) z1).trans PX.out.2.1; have q1 := (hSw.below.cell (p := ⟨b2, o2 + j * 3 + 1, none⟩) z2).trans PY.out.2.1; have p2 := (hSw.below.cell (p := ⟨b1, o1 + j * 3 + 2, none⟩) z1).trans PX.out.2.2; have q2 := (hSw.below.cell (p := ⟨b2, o2 + j * 3 + 2, none⟩) z2).trans PY.out.2.2; clear hSw; go_simp; first | done | with_reducible rfl)
              try simp only [Act.put, List.setIfInBounds_toArray, List.set_cons_zero, List.set_cons_succ]
              refine wpAnyH_take (i := 1) (oi := { dst := some 31, op := Op.load 40 (Operand.tmp 30), type := 40, pos := "ref.go:268", after := #[{ on := 0, ground := Ground.data }], guard := none }) (v := ?_) rfl (by kernel_rfl) (by kernel_rfl) (by kernel_rfl) (fun _ _ _ h => h) (Or.inl ⟨by rfl, ?_⟩) (by assumption) ?_
              rotate_left
              · (intro wq hSw; (try dsimp only at hSw); have a0 := hSw.a.c0; have b0 := hSw.b.c0; have p0 := (hSw.below.cell (p := ⟨b1, o1 + j * 3, none⟩) z1).trans PX.out.1; have q0 := (hSw.below.cell (p := ⟨b2, o2 + j * 3, none⟩) z2).trans PY.out.1; have p1 := (hSw.below.cell (p := ⟨b1, o1 + j * 3 + 1, none⟩) z1).trans PX.out.2.1; have q1 := (hSw.below.cell (p := ⟨b2, o2 + j * 3 + 1, none⟩) z2).trans PY.out.2.1; have p2 := (hSw.below.cell (p := ⟨b1, o1 + j * 3 + 2, none⟩) z1).trans PX.out.2.2; have q2 := (hSw.below.cell (p := ⟨b2, o2 + j * 3 + 2, none⟩) z2).trans PY.out.2.2; clear hSw; go_simp; first | done | with_reducible rfl)
              try simp only [Act.put, List.setIfInBounds_toArray, List.set_cons_zero, List.set_cons_succ]
              refine wpAnyH_take (i := 2) (oi := { dst := some 32, op := Op.move (Operand.tmp 5), type := 3, pos := "ref.go:268", after := #[], guard := none }) (v := ?_) rfl (by kernel_rfl) (by kernel_rfl) (by kernel_rfl) (fun _ _ _ h => h) (Or.inl ⟨by rfl, ?_⟩) (by assumption) ?_
              rotate_left
              · (intro wq hSw; (try dsimp only at hSw); have a0 := hSw.a.c0; have b0 := hSw.b.c0; have p0 := (hSw.below.cell (p := ⟨b1, o1 + j * 3, none⟩) z1).trans PX.out.1; have q0 := (hSw.below.cell (p := ⟨b2, o2 + j * 3, none⟩) z2).trans PY.out.1; have p1 := (hSw.below.cell (p := ⟨b1, o1 + j * 3 + 1, none⟩) z1).trans PX.out.2.1; have q1 := (hSw.below.cell (p := ⟨b2, o2 + j * 3 + 1, none⟩) z2).trans PY.out.2.1; have p2 := (hSw.below.cell (p := ⟨b1, o1 + j * 3 + 2, none⟩) z1).trans PX.out.2.2; have q2 := (hSw.below.cell (p := ⟨b2, o2 + j * 3 + 2, none⟩) z2).trans PY.out.2.2; clear hSw; go_simp; first | done | with_reducible rfl)
              try simp only [Act.put, List.setIfInBounds_toArray, List.set_cons_zero, List.set_cons_succ]
              refine wpAnyH_take (i := 3) (oi := { dst := some 33, op := Op.indexAddr 40 (Operand.tmp 31) (Operand.tmp 32), type := 0, pos := "ref.go:268", after := #[{ on := 1, ground := Ground.data }, { on := 2, ground := Ground.data }], guard := none }) (v := ?_) rfl (by kernel_rfl) (by kernel_rfl) (by kernel_rfl) (fun _ _ _ h => h) (Or.inl ⟨by rfl, ?_⟩) (by assumption) ?_
              rotate_left
              · (intro wq hSw; (try dsimp only at hSw); have a0 := hSw.a.c0; have b0 := hSw.b.c0; have p0 := (hSw.below.cell (p := ⟨b1, o1 + j * 3, none⟩) z1).trans PX.out.1; have q0 := (hSw.below.cell (p := ⟨b2, o2 + j * 3, none⟩) z2).trans PY.out.1; have p1 := (hSw.below.cell (p := ⟨b1, o1 + j * 3 + 1, none⟩) z1).trans PX.out.2.1; have q1 := (hSw.below.cell (p := ⟨b2, o2 + j * 3 + 1, none⟩) z2).trans PY.out.2.1; have p2 := (hSw.below.cell (p := ⟨b1, o1 + j * 3 + 2, none⟩) z1).trans PX.out.2.2; have q2 := (hSw.below.cell (p := ⟨b2, o2 + j * 3 + 2, none⟩) z2).trans PY.out.2.2; clear hSw; go_simp; first | done | with_reducible rfl)
              try simp only [Act.put, List.setIfInBounds_toArray, List.set_cons_zero, List.set_cons_succ]
              refine wpAnyH_take (i := 4) (oi := { dst := some 34, op := Op.load 23 (Operand.tmp 33), type := 23, pos := "ref.go:268", after := #[{ on := 3, ground := Ground.data }], guard := none }) (v := ?_) rfl (by kernel_rfl) (by kernel_rfl) (by kernel_rfl) (fun _ _ _ h => h) (Or.inl ⟨by rfl, ?_⟩) (by assumption) ?_
              rotate_left
              · (intro wq hSw; (try dsimp only at hSw); have a0 := hSw.a.c0; have b0 := hSw.b.c0; have p0 := (hSw.below.cell (p := ⟨b1, o1 + j * 3, none⟩) z1).trans PX.out.1; have q0 := (hSw.below.cell (p := ⟨b2, o2 + j * 3, none⟩) z2).trans PY.out.1; have p1 := (hSw.below.cell (p := ⟨b1, o1 + j * 3 + 1, none⟩) z1).trans PX.out.2.1; have q1 := (hSw.below.cell (p := ⟨b2, o2 + j * 3 + 1, none⟩) z2).trans PY.out.2.1; have p2 := (hSw.below.cell (p := ⟨b1, o1 + j * 3 + 2, none⟩) z1).trans PX.out.2.2; have q2 := (hSw.below.cell (p := ⟨b2, o2 + j * 3 + 2, none⟩) z2).trans PY.out.2.2; clear hSw; go_simp; first | done | with_reducible rfl)
              try simp only [Act.put, List.setIfInBounds_toArray, List.set_cons_zero, List.set_cons_succ]
              refine wpAnyH_take (i := 5) (oi := { dst := some 35, op := Op.fieldAddr 62 (Operand.tmp 3) 0, type := 0, pos := "ref.go:268", after := #[], guard := none }) (v := ?_) rfl (by kernel_rfl) (by kernel_rfl) (by kernel_rfl) (fun _ _ _ h => h) (Or.inl ⟨by rfl, ?_⟩) (by assumption) ?_
              rotate_left
              · (intro wq hSw; (try dsimp only at hSw); have a0 := hSw.a.c0; have b0 := hSw.b.c0; have p0 := (hSw.below.cell (p := ⟨b1, o1 + j * 3, none⟩) z1).trans PX.out.1; have q0 := (hSw.below.cell (p := ⟨b2, o2 + j * 3, none⟩) z2).trans PY.out.1; have p1 := (hSw.below.cell (p := ⟨b1, o1 + j * 3 + 1, none⟩) z1).trans PX.out.2.1; have q1 := (hSw.below.cell (p := ⟨b2, o2 + j * 3 + 1, none⟩) z2).trans PY.out.2.1; have p2 := (hSw.below.cell (p := ⟨b1, o1 + j * 3 + 2, none⟩) z1).trans PX.out.2.2; have q2 := (hSw.below.cell (p := ⟨b2, o2 + j * 3 + 2, none⟩) z2).trans PY.out.2.2; clear hSw; go_simp; first | done | with_reducible rfl)
              try simp only [Act.put, List.setIfInBounds_toArray, List.set_cons_zero, List.set_cons_succ]
              refine wpAnyH_take (i := 6) (oi := { dst := some 36, op := Op.load 40 (Operand.tmp 35), type := 40, pos := "ref.go:268", after := #[{ on := 5, ground := Ground.data }], guard := none }) (v := ?_) rfl (by kernel_rfl) (by kernel_rfl) (by kernel_rfl) (fun _ _ _ h => h) (Or.inl ⟨by rfl, ?_⟩) (by assumption) ?_
              rotate_left
              · (intro wq hSw; (try dsimp only at hSw); have a0 := hSw.a.c0; have b0 := hSw.b.c0; have p0 := (hSw.below.cell (p := ⟨b1, o1 + j * 3, none⟩) z1).trans PX.out.1; have q0 := (hSw.below.cell (p := ⟨b2, o2 + j * 3, none⟩) z2).trans PY.out.1; have p1 := (hSw.below.cell (p := ⟨b1, o1 + j * 3 + 1, none⟩) z1).trans PX.out.2.1; have q1 := (hSw.below.cell (p := ⟨b2, o2 + j * 3 + 1, none⟩) z2).trans PY.out.2.1; have p2 := (hSw.below.cell (p := ⟨b1, o1 + j * 3 + 2, none⟩) z1).trans PX.out.2.2; have q2 := (hSw.below.cell (p := ⟨b2, o2 + j * 3 + 2, none⟩) z2).trans PY.out.2.2; clear hSw; go_simp; first | done | with_reducible rfl)
              try simp only [Act.put, List.setIfInBounds_toArray, List.set_cons_zero, List.set_cons_succ]
              refine wpAnyH_take (i := 7) (oi := { dst := some 37, op := Op.move (Operand.tmp 5), type := 3, pos := "ref.go:268", after := #[], guard := none }) (v := ?_) rfl (by kernel_rfl) (by kernel_rfl) (by kernel_rfl) (fun _ _ _ h => h) (Or.inl ⟨by rfl, ?_⟩) (by assumption) ?_
              rotate_left
              · (intro wq hSw; (try dsimp only at hSw); have a0 := hSw.a.c0; have b0 := hSw.b.c0; have p0 := (hSw.below.cell (p := ⟨b1, o1 + j * 3, none⟩) z1).trans PX.out.1; have q0 := (hSw.below.cell (p := ⟨b2, o2 + j * 3, none⟩) z2).trans PY.out.1; have p1 := (hSw.below.cell (p := ⟨b1, o1 + j * 3 + 1, none⟩) z1).trans PX.out.2.1; have q1 := (hSw.below.cell (p := ⟨b2, o2 + j * 3 + 1, none⟩) z2).trans PY.out.2.1; have p2 := (hSw.below.cell (p := ⟨b1, o1 + j * 3 + 2, none⟩) z1).trans PX.out.2.2; have q2 := (hSw.below.cell (p := ⟨b2, o2 + j * 3 + 2, none⟩) z2).trans PY.out.2.2; clear hSw; go_simp; first | done | with_reducible rfl)
              try simp only [Act.put, List.setIfInBounds_toArray, List.set_cons_zero, List.set_cons_succ]
              refine wpAnyH_take (i := 8) (oi := { dst := some 38, op := Op.indexAddr 40 (Operand.tmp 36) (Operand.tmp 37), type := 0, pos := "ref.go:268", after := #[{ on := 6, ground := Ground.data }, { on := 7, ground := Ground.data }], guard := none }) (v := ?_) rfl (by kernel_rfl) (by kernel_rfl) (by kernel_rfl) (fun _ _ _ h => h) (Or.inl ⟨by rfl, ?_⟩) (by assumption) ?_
              rotate_left
              · (intro wq hSw; (try dsimp only at hSw); have a0 := hSw.a.c0; have b0 := hSw.b.c0; have p0 := (hSw.below.cell (p := ⟨b1, o1 + j * 3, none⟩) z1).trans PX.out.1; have q0 := (hSw.below.cell (p := ⟨b2, o2 + j * 3, none⟩) z2).trans PY.out.1; have p1 := (hSw.below.cell (p := ⟨b1, o1 + j * 3 + 1, none⟩) z1).trans PX.out.2.1; have q1 := (hSw.below.cell (p := ⟨b2, o2 + j * 3 + 1, none⟩) z2).trans PY.out.2.1; have p2 := (hSw.below.cell (p := ⟨b1, o1 + j * 3 + 2, none⟩) z1).trans PX.out.2.2; have q2 := (hSw.below.cell (p := ⟨b2, o2 + j * 3 + 2, none⟩) z2).trans PY.out.2.2; clear hSw; go_simp; first | done | with_reducible rfl)
              try simp only [Act.put, List.setIfInBounds_toArray, List.set_cons_zero, List.set_cons_succ]
              refine wpAnyH_take (i := 9) (oi := { dst := some 39, op := Op.load 23 (Operand.tmp 38), type := 23, pos := "ref.go:268", after := #[{ on := 8, ground := Ground.data }], guard := none }) (v := ?_) rfl (by kernel_rfl) (by kernel_rfl) (by kernel_rfl) (fun _ _ _ h => h) (Or.inl ⟨by rfl, ?_⟩) (by assumption) ?_
              rotate_left
              · (intro wq hSw; (try dsimp only at hSw); have a0 := hSw.a.c0; have b0 := hSw.b.c0; have p0 := (hSw.below.cell (p := ⟨b1, o1 + j * 3, none⟩) z1).trans PX.out.1; have q0 := (hSw.below.cell (p := ⟨b2, o2 + j * 3, none⟩) z2).trans PY.out.1; have p1 := (hSw.below.cell (p := ⟨b1, o1 + j * 3 + 1, none⟩) z1).trans PX.out.2.1; have q1 := (hSw.below.cell (p := ⟨b2, o2 + j * 3 + 1, none⟩) z2).trans PY.out.2.1; have p2 := (hSw.below.cell (p := ⟨b1, o1 + j * 3 + 2, none⟩) z1).trans PX.out.2.2; have q2 := (hSw.below.cell (p := ⟨b2, o2 + j * 3 + 2, none⟩) z2).trans PY.out.2.2; clear hSw; go_simp; first | done | with_reducible rfl)
              try simp only [Act.put, List.setIfInBounds_toArray, List.set_cons_zero, List.set_cons_succ]
              refine wpAnyH_take (i := 10) (oi := { dst := some 40, op := Op.binOp BinOp.neq 23 (Operand.tmp 34) (Operand.tmp 39) 23, type := 4, pos := "ref.go:268", after := #[{ on := 4, ground := Ground.data }, { on := 9, ground := Ground.data }], guard := none }) (v := ?_) rfl (by kernel_rfl) (by kernel_rfl) (by kernel_rfl) (fun _ _ _ h => h) (Or.inl ⟨by rfl, ?_⟩) (by assumption) ?_
              rotate_left
              · (intro wq hSw; (try dsimp only at hSw); have a0 := hSw.a.c0; have b0 := hSw.b.c0; have p0 := (hSw.below.cell (p := ⟨b1, o1 + j * 3, none⟩) z1).trans PX.out.1; have q0 := (hSw.below.cell (p := ⟨b2, o2 + j * 3, none⟩) z2).trans PY.out.1; have p1 := (hSw.below.cell (p := ⟨b1, o1 + j * 3 + 1, none⟩) z1).trans PX.out.2.1; have q1 := (hSw.below.cell (p := ⟨b2, o2 + j * 3 + 1, none⟩) z2).trans PY.out.2.1; have p2 := (hSw.below.cell (p := ⟨b1, o1 + j * 3 + 2, none⟩) z1).trans PX.out.2.2; have q2 := (hSw.below.cell (p := ⟨b2, o2 + j * 3 + 2, none⟩) z2).trans PY.out.2.2; clear hSw; go_simp; first | done | with_reducible rfl)
              try simp only [Act.put, List.setIfInBounds_toArray, List.set_cons_zero, List.set_cons_succ]
              refine wpAnyH_done (by kernel_rfl) ?_ _
              have T5 := Lib.hid hHeld
              have EE : Hid (dsame L k s h M k' s' h' = false) := Lib.hid (by rw [E.out, NN.out])
              clear hHeld ne
              go_wp2
              rw [EE.out]
              exact bodyPost_ret (v := .bool false) (by simp [results, Try.results90, go_sem, *]) rfl ⟨rfl, T5.out.below⟩
          · have EE : Hid (dsame L k s h M k' s' h' = true) := Lib.hid (by
              obtain rfl : j = L.length := by omega
              have h := TK.out
              rw [List.take_length, ln.out, List.take_length] at h
              rw [E.out, h]; exact decide_eq_true rfl)
            have d0 := T4.out.a.c0
            go_wp2
            rw [EE.out]
            exact bodyPost_ret (v := .bool true) (by simp [results, Try.results90, go_sem, *]) rfl ⟨rfl, T4.out.below⟩
  · have c' : (dboth L k s h M k' s' h' != 0) = true := by simp [c]
    have E : Hid (dsame L k s h M k' s' h' = false) := Lib.hid (by unfold dsame; simp [c])
    clear c
    go_wp2
    rw [E.out]
    exact bodyPost_ret (v := .bool false) (by simp [results, Try.results90, go_sem, *]) rfl ⟨rfl, T1.out.below⟩
end Go.Proofs.Ytabgphlpdoockaa
