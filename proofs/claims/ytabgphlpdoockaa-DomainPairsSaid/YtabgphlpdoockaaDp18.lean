/-
  Part 18: RDS2.
-/
import Derived.Test.YtabgphlpdoockaaDp16
import Derived.Test.YtabgphlpdoockaaDp17
import Derived.BigQuiet
import Derived.Deep.CutBlock
import Derived.Deep.DeepCutAuto
import Derived.Deep.DrawnRows
import Derived.Deep.LoopGhost
import Derived.Deep.QuietTactic
import Derived.Deep.RegionHeld3
import Derived.Deep.RegionWith
import Derived.Lib.Hide
import Derived.Maps.AppendAt
import Derived.WalkKit
import Derived.WalkLawsBesides
import Derived.WalkSpells
namespace Go.Proofs.Ytabgphlpdoockaa
open Go.RowKit
section
open Builtin
/-- append onto a row that the call owns, in a region: also of no elements -/
theorem step_append_at {w : World} {ops : Array Oper} {o : Oper} {a : Act} {K : Act → World → Prop} {Q : Exit → Act → World → Prop} {E : Prop} (hgd : o.guard = none) (s x : Operand)
    (ho : o.op = .call { callee := .builtin .append, args := #[s, x], argTypes := #[40, 40] }) (base : Nat)
    (v : Value) (n : Nat) (xs : List Value) (hs : a.eval s = v) (hown : w.ownsRow base 23 3 v n xs)
    (ad : Addr) (m c : Nat) (news : List Value) (hx : a.eval x = .slice (some ad) m c) (hl : news.length = m * 3) (hnews : ∀ j u, news[j]? = some u → w.cell? (ad.add j) = some u) (h1 : ∀ u ∈ news, u.oneCell' = true)
    (h63 : n + m ≤ 4000) (hbase : base ≤ w.heap.size)
    (h : ∀ v' w', w'.ownsRow base 23 3 v' (n + m) (xs ++ news) → w.grownBy w' v.ownBlock → K (a.put o.dst v') w') :
    if Region.wanted o (yielded ops a.tmps) = true then Oper.wp Try.prog o a w K Q else E := by
  have hw : Region.wanted o (yielded ops a.tmps) = true := by simp [Region.wanted, hgd]
  obtain ⟨i0, hi, hz0, hz1, hz2⟩ := info_parts Try.infoRange
  obtain ⟨v', w', hr, h2, h3, _, _⟩ := run_append_own_at (P := Try.prog) w base 40 o.type 23 i0 (.agg #[.int .i64 0, .int .i64 0, .int .i64 0]) 3 24 Try.underlying40 hi hz0 hz1 hz2 rfl (by decide) v n xs hown ad m c news hl hnews h1 (by unfold maxLen; omega) (by omega) hbase
  rw [if_pos hw]
  unfold Oper.wp execOp
  simp only [ho, resolve, invoke, builtin, Sem.run_bind, Sem.run_pure, Result.andThen_ok, List.map_toArray, List.map_cons, List.map_nil, hs, hx, hr]
  exact h v' w' h2 h3
end
/-- a row of domains lies as it lay behind an append to a row of ranges -/
theorem owns_kept2 {b1 b2 : Nat} {w w' : World} {u v : Value} {n m : Nat} {xs ys : List Value} (h1 : w.ownsRow b1 23 3 u n xs) (h2 : w.ownsRow b2 62 4 v m ys) (hg : w.grownBy w' u.ownBlock) : w'.ownsRow b2 62 4 v m ys :=
  h2.kept hg (by
    rcases owns_apart h1 h2 with e | e
    · rw [e]; exact Classical.em _
    · exact Or.inr fun q => e q.symm)
theorem dsiz_of {D : List R3} {k s h : Int} (hn : D.length = 1 ∨ D.length = 2) (hD : ∀ x ∈ D, chk x.1 x.2.1 x.2.2 = 0 ∧ ¬ x.2.2 < 0) (hp : plB k s h = true) : dsiz D k s h = prodL D := by
  unfold dsiz; rw [if_pos (dchk_of hn hD hp)]
theorem prod_ne {D : List R3} (hn : D.length = 1 ∨ D.length = 2) (h : ∀ x ∈ D, 1 ≤ siz x.1 x.2.1 x.2.2) : ¬ prodL D = 0 := fun e => by
  obtain ⟨i, x, hx, e⟩ := (prod_zero hn).1 e
  have := h x (List.mem_of_getElem? hx)
  omega
theorem asc_ok {D : List R3} (hD : ∀ x ∈ D, chk x.1 x.2.1 x.2.2 = 0 ∧ ¬ x.2.2 < 0) : Ok3 D := fun x hx => chk_i64 (hD x hx).1
theorem meets_zero {L M C : List R3} (hA : Up L) (hB : Up M) (hl : L.length = 1 ∨ L.length = 2) (hm : Meets L M C) (h0 : prodL L = 0) : prodL C = 0 := by
  have h := (prod_le hl hm.1 (fun i x z hx hz => by
    obtain ⟨A, B, hA', hB', f⟩ := hm.2 i z hz
    rw [hx] at hA'; cases hA'
    have a := hA x (List.mem_of_getElem? hx)
    have b := hB B (List.mem_of_getElem? hB')
    exact ⟨siz_nn f.1, (siz_meet a.1 b.1 f).1⟩)).1
  have := prodL_bd C
  omega
/-- a range that is right, ascends and has numbers -/
def Pc (x : R3) : Prop := chk x.1 x.2.1 x.2.2 = 0 ∧ ¬ x.2.2 < 0 ∧ 1 ≤ siz x.1 x.2.1 x.2.2
theorem Pc.asc {x : R3} (h : Pc x) : chk x.1 x.2.1 x.2.2 = 0 ∧ ¬ x.2.2 < 0 := ⟨h.1, h.2.1⟩
theorem Pc.num {x : R3} (h : Pc x) : 1 ≤ siz x.1 x.2.1 x.2.2 := h.2.2
theorem Pc.mk {x : R3} (h : chk x.1 x.2.1 x.2.2 = 0 ∧ ¬ x.2.2 < 0) (h2 : 1 ≤ siz x.1 x.2.1 x.2.2) : Pc x := ⟨h.1, h.2, h2⟩
set_option maxRecDepth 100000 in
set_option maxHeartbeats 12800000 in
theorem rDsub_any (v : Value) (L : List R3) (k s h : Int) (v' : Value) (M : List R3) (k' s' h' : Int) (w : World) (hr : Rd w v L) (hL : Ok3 L) (hr' : Rd w v' M) (hM : Ok3 M) (hcap : ∀ a n c, v = .slice a n c → n ≤ c) :
    Calls Try.prog 85 #[.agg #[v, .int .i64 k, .int .i64 s, .int .i64 h], .agg #[v', .int .i64 k', .int .i64 s', .int .i64 h']] w (DSubRet L k s h M k' s' h' w) := by
  obtain ⟨ao, cap, rfl, hc⟩ := hr
  obtain ⟨ao', cap', rfl, hc'⟩ := hr'
  have HR : Hid (Rd w (.slice ao L.length cap) L) := Lib.hid ⟨ao, cap, rfl, hc⟩
  have HR' : Hid (Rd w (.slice ao' M.length cap') M) := Lib.hid ⟨ao', cap', rfl, hc'⟩
  have HCC := Lib.hid hc
  have HCC' := Lib.hid hc'
  have HL := Lib.hid hL
  have HM := Lib.hid hM
  have hcp : L.length ≤ cap := hcap _ _ _ rfl
  clear hc hL hc' hM hcap
  obtain ⟨i0, hi, hz0, hz1, hz2⟩ := info_parts Try.infoRange
  go_enter Try.func85, Try.ntmps85
  go_wp2_with fail
  refine (rDinter_any _ L k s h _ M k' s' h' _ ((HR.out.keep (below_new _ _)).keep (below_new _ _)) HL.out ((HR'.out.keep (below_new _ _)).keep (below_new _ _)) HM.out).mono ?_
  rintro e w1 ⟨rv, kk, ss, hh, er, rfl, hb1, hE⟩
  have R1 := res44 hb1
  have S0 : ((w.alloc (.cells #[.slice ao L.length cap, .int .i64 k, .int .i64 s, .int .i64 h] 62)).alloc (.cells #[.slice ao' M.length cap', .int .i64 k', .int .i64 s', .int .i64 h'] 62)).heap.size = w.heap.size + 1 + 1 := by simp
  by_cases c : dboth L k s h M k' s' h' = 0
  · have C := Lib.hid c
    obtain ⟨rfl, rfl, rfl, rfl, X, hX, own⟩ : er = 0 ∧ kk = k ∧ ss = s ∧ hh = h ∧ ∃ X, Meets L M X ∧ w1.ownsRow (w.heap.size + 1 + 1) 23 3 rv X.length (cells3 X) := by
      rcases hE.out with ⟨_, h1, h2, h3, h4, X, hX, own⟩ | ⟨h0, _⟩
      · rw [S0] at own
        exact ⟨h1, h2, h3, h4, X, hX, own⟩
      · exact absurd c h0
    have HX := Lib.hid hX
    obtain ⟨ra, rc, rfl⟩ := owns_slice own
    have T2 : Hid (SbSt w (.slice ao L.length cap) kk ss hh (.slice ao' M.length cap') k' s' h' w1.heap.size (.slice ra X.length rc) X (w1.alloc (.cells #[.slice ra X.length rc, .int .i64 kk, .int .i64 ss, .int .i64 hh] 62))) := Lib.hid (by
      have nb := below_new w1 (.cells #[.slice ra X.length rc, .int .i64 kk, .int .i64 ss, .int .i64 hh] 62)
      exact ⟨R1.1.trans (nb.mono R1.1.size), R1.2.1.keep nb, R1.2.2.keep nb, Blk.new _ _ _ _ _ w1, owns_base (owns_below own nb) (by omega), fun g hg => (own.lt g hg).2, R1.2.2.size⟩)
    have ok := Lib.hid (dboth_zero c)
    have rk := Lib.hid (dchk_rank ok.out.1)
    have ln := Lib.hid ok.out.2.2
    have lx := Lib.hid hX.1
    have UA : Hid (Up L) := Lib.hid (dchk_zero ok.out.1).2.2
    have UB : Hid (Up M) := Lib.hid (dchk_zero ok.out.2.1).2.2
    have PL := Lib.hid (dchk_zero ok.out.1).2.1
    have UX : Hid (Up X) := Lib.hid (meets_asc UA.out hX)
    have EX : Hid (dsiz X kk ss hh = prodL X) := Lib.hid (dsiz_of (by have := rk.out; have := lx.out; omega) UX.out PL.out)
    have EL : Hid (dsiz L kk ss hh = prodL L) := Lib.hid (dsiz_of rk.out UA.out PL.out)
    clear hE hb1 R1 S0 own hX c
    obtain ⟨ba, oa, rfl, hba, ca⟩ := HCC.out.resolve_left (by have := rk.out; omega)
    obtain ⟨bb, ob, rfl, hbb, cb⟩ := HCC'.out.resolve_left (by have := rk.out; have := ln.out; omega)
    have CA : Hid (At3 w ba oa L) := Lib.hid ca
    have CB : Hid (At3 w bb ob M) := Lib.hid cb
    clear ca cb HCC HCC'
    go_upto_region 2 with fail
    generalize w1.alloc (.cells #[.slice ra X.length rc, .int .i64 kk, .int .i64 ss, .int .i64 hh] 62) = w2 at *
    generalize w1.heap.size = cb at *
    have x0 := T2.out.c.c0
    have x1 := T2.out.c.c1
    have x2 := T2.out.c.c2
    have x3 := T2.out.c.c3
    go_wp2_with fail
    refine (rDsize_any _ X kk ss hh _ (Rd.of_own T2.out.row) (asc_ok UX.out)).mono ?_
    rintro e w4 ⟨rfl, hb4⟩
    rw [EX.out]
    have T4 := Lib.hid (T2.out.keep hb4)
    clear hb4 T2 x0 x1 x2 x3
    by_cases c : prodL X = 0
    · have c' : (prodL X == 0) = true := by simp [c]
      have PX := Lib.hid c
      clear c
      go_upto_region 5 with fail
      clear c'
      by_cases pl : prodL L = 0
      · have PC := Lib.hid pl
        clear pl
        refine wp_region_held_drew (S := (fun w' => SbSt w (.slice (some ⟨ba, oa, none⟩) L.length cap) kk ss hh (.slice (some ⟨bb, ob, none⟩) M.length cap') k' s' h' cb (.slice ra X.length rc) X w')) (by kernel_rfl) (T4.out.keep (to_drew (Below.refl _ _))) (fun hHeld => ?_)
        clear T4
        obtain ⟨v0, hv0⟩ : ∃ v0, v0 = w4.drew := ⟨_, rfl⟩
        rw [← hv0] at hHeld ⊢
        clear hv0
        refine wpAnyH_take (i := 1) (oi := { dst := some 27, op := Op.fieldAddr 62 (Operand.tmp 2) 1, type := 0, pos := "ref.go:226", after := #[], guard := none }) (v := ?_) rfl (by kernel_rfl) (by kernel_rfl) (by kernel_rfl) (fun _ _ _ h => h) (Or.inl ⟨by rfl, ?_⟩) (by assumption) ?_
        rotate_left
        · (intro wq hSw; (try dsimp only at hSw); have a0 := hSw.a.c0; have a1 := hSw.a.c1; have a2 := hSw.a.c2; have a3 := hSw.a.c3; clear hSw; go_simp; first | done | with_reducible rfl)
        try simp only [Act.put, List.setIfInBounds_toArray, List.set_cons_zero, List.set_cons_succ]
        refine wpAnyH_take (i := 2) (oi := { dst := some 28, op := Op.load 60 (Operand.tmp 27), type := 60, pos := "ref.go:226", after := #[{ on := 1, ground := Ground.data }], guard := none }) (v := ?_) rfl (by kernel_rfl) (by kernel_rfl) (by kernel_rfl) (fun _ _ _ h => h) (Or.inl ⟨by rfl, ?_⟩) (by assumption) ?_
        rotate_left
        · (intro wq hSw; (try dsimp only at hSw); have a0 := hSw.a.c0; have a1 := hSw.a.c1; have a2 := hSw.a.c2; have a3 := hSw.a.c3; clear hSw; go_simp; first | done | with_reducible rfl)
        try simp only [Act.put, List.setIfInBounds_toArray, List.set_cons_zero, List.set_cons_succ]
        refine wpAnyH_take (i := 4) (oi := { dst := some 30, op := Op.fieldAddr 62 (Operand.tmp 2) 0, type := 0, pos := "ref.go:226", after := #[], guard := none }) (v := ?_) rfl (by kernel_rfl) (by kernel_rfl) (by kernel_rfl) (fun _ _ _ h => h) (Or.inl ⟨by rfl, ?_⟩) (by assumption) ?_
        rotate_left
        · (intro wq hSw; (try dsimp only at hSw); have a0 := hSw.a.c0; have a1 := hSw.a.c1; have a2 := hSw.a.c2; have a3 := hSw.a.c3; clear hSw; go_simp; first | done | with_reducible rfl)
        try simp only [Act.put, List.setIfInBounds_toArray, List.set_cons_zero, List.set_cons_succ]
        refine wpAnyH_take (i := 5) (oi := { dst := some 31, op := Op.load 40 (Operand.tmp 30), type := 40, pos := "ref.go:226", after := #[{ on := 4, ground := Ground.data }], guard := none }) (v := ?_) rfl (by kernel_rfl) (by kernel_rfl) (by kernel_rfl) (fun _ _ _ h => h) (Or.inl ⟨by rfl, ?_⟩) (by assumption) ?_
        rotate_left
        · (intro wq hSw; (try dsimp only at hSw); have a0 := hSw.a.c0; have a1 := hSw.a.c1; have a2 := hSw.a.c2; have a3 := hSw.a.c3; clear hSw; go_simp; first | done | with_reducible rfl)
        try simp only [Act.put, List.setIfInBounds_toArray, List.set_cons_zero, List.set_cons_succ]
        refine wpAnyH_ready (rs := [0, 3]) (by kernel_rfl) (by simp) ?_
        refine AllReadyH.cons (o := { dst := some 26, op := Op.buildSlice 77 0 #[], type := 77, pos := "ref.go:226", after := #[], guard := none }) rfl (fun K hK => ?_) ?_
        · go_simp
          have nb := below_new v0 (.cells #[] 62)
          have zcc := hHeld.c.size
          have OD : (v0.alloc (.cells #[] 62)).ownsRow (cb + 1) 62 4 (.slice (some ⟨v0.heap.size, 0, none⟩) 0 0) 0 [] := World.ownsRow_lit v0 #[] 0 (by omega) (by unfold maxLen; omega) (by simp)
          have hS := hHeld.keep nb
          refine hK.out _ _ hS (fun hHeld => ?_)
          clear hK K hHeld
          clear nb zcc
          generalize v0.alloc (.cells #[] 62) = v1 at *
          have hHeld := hS
          clear hS
          try simp only [Act.put, List.setIfInBounds_toArray, List.set_cons_zero, List.set_cons_succ]
          refine wpAnyH_ready (rs := [3]) (by kernel_rfl) (by simp) ?_
          refine AllReadyH.cons (o := { dst := some 29, op := Op.buildSlice 40 0 #[], type := 40, pos := "ref.go:226", after := #[], guard := none }) rfl (fun K hK => ?_) AllReadyH.nil
          go_simp
          have nb := below_new v1 (.cells #[] 23)
          have zcc := hHeld.c.size
          have OD := owns_below OD nb
          have OR : (v1.alloc (.cells #[] 23)).ownsRow (cb + 1) 23 3 (.slice (some ⟨v1.heap.size, 0, none⟩) 0 0) 0 [] := World.ownsRow_lit v1 #[] 0 (by omega) (by unfold maxLen; omega) (by simp)
          have hS := hHeld.keep nb
          refine hK.out _ _ hS (fun hHeld => ?_)
          clear hK K hHeld
          clear nb zcc
          generalize v1.alloc (.cells #[] 23) = v2 at *
          have hHeld := hS
          clear hS
          try simp only [Act.put, List.setIfInBounds_toArray, List.set_cons_zero, List.set_cons_succ]
          refine wpAnyH_ready (rs := [6]) (by kernel_rfl) (by simp) ?_
          refine AllReadyH.cons (o := { dst := some 32, op := Op.call { callee := Callee.builtin Builtin.append, args := #[Operand.tmp 29, Operand.tmp 31], argTypes := #[40, 40] }, type := 40, pos := "ref.go:226", after := #[{ on := 3, ground := Ground.data }, { on := 5, ground := Ground.data }], guard := none }) rfl (fun K hK => ?_) AllReadyH.nil
          have SRC := At3.news (CA.out.under hHeld.below hba)
          have zcc := hHeld.c.size
          refine step_append_at rfl (.tmp 29) (.tmp 31) rfl (cb + 1) (.slice (some ⟨v1.heap.size, 0, none⟩) 0 0) 0 [] (by simp [Act.eval, Act.put]) OR ⟨ba, oa, none⟩ L.length cap (cells3 L) (by simp [Act.eval, Act.put]) (cells3_length L) SRC (cells3_one L) (by have := rk.out; omega) (by omega) ?_
          intro av v3 own2 grow2
          simp only [Nat.zero_add, List.nil_append] at own2
          have hq : Below (cb + 1) v2 v3 := (Below.refl _ _).grown grow2 (by omega) (fun g hg => (OR.lt g hg).1)
          have hS := hHeld.under hq (by omega)
          have OD := owns_kept2 OR OD grow2
          refine hK.out _ _ hS (fun hHeld => ?_)
          clear hK K hHeld
          clear hq grow2 SRC OR zcc
          have hHeld := hS
          clear hS
          try simp only [Act.put, List.setIfInBounds_toArray, List.set_cons_zero, List.set_cons_succ]
          refine wpAnyH_ready (rs := [7]) (by kernel_rfl) (by simp) ?_
          refine AllReadyH.cons (o := { dst := some 33, op := Op.call { callee := Callee.value (Operand.func 155), args := #[Operand.tmp 26, Operand.tmp 28, Operand.tmp 32], argTypes := #[77, 60, 40] }, type := 77, pos := "ref.go:226", after := #[{ on := 0, ground := Ground.data }, { on := 2, ground := Ground.data }, { on := 6, ground := Ground.data }, { on := 6, ground := Ground.chain }], guard := none }) rfl (fun K hK => ?_) AllReadyH.nil
          go_simp
          refine (rprod_none _ kk ss hh _ L _ ⟨_, _, _, rfl⟩ (Rd.of_own own2) (asc_ok UA.out) (Lib.hid (EL.out.trans PC.out))).mono ?_
          rintro e v4 ⟨rfl, hq⟩
          have hq : Below v3.heap.size v3 v4 := ⟨hq.os, hq.tape, hq.output, hq.size, hq.block⟩
          have hS := hHeld.keep hq
          have OD := owns_below OD hq
          go_wp2_with fail
          refine hK.out _ _ hS (fun hHeld => ?_)
          clear hK K hHeld
          clear hq
          have hHeld := hS
          clear hS
          try simp only [Act.put, List.setIfInBounds_toArray, List.set_cons_zero, List.set_cons_succ]
          refine wpAnyH_take (i := 8) (oi := { dst := some 4, op := Op.assign (Operand.tmp 33), type := 77, pos := "ref.go:226", after := #[{ on := 7, ground := Ground.data }, { on := 7, ground := Ground.chain }, { on := 0, ground := Ground.phase }, { on := 1, ground := Ground.phase }, { on := 2, ground := Ground.phase }, { on := 3, ground := Ground.phase }, { on := 4, ground := Ground.phase }, { on := 5, ground := Ground.phase }, { on := 6, ground := Ground.phase }, { on := 7, ground := Ground.phase }], guard := none }) (v := ?_) rfl (by kernel_rfl) (by kernel_rfl) (by kernel_rfl) (fun _ _ _ h => h) (Or.inl ⟨by rfl, ?_⟩) (by assumption) ?_
          rotate_left
          · (intro wq hSw; (try dsimp only at hSw); have a0 := hSw.a.c0; have a1 := hSw.a.c1; have a2 := hSw.a.c2; have a3 := hSw.a.c3; clear hSw; go_simp; first | done | with_reducible rfl)
          try simp only [Act.put, List.setIfInBounds_toArray, List.set_cons_zero, List.set_cons_succ]
          refine wpAnyH_take (i := 9) (oi := { dst := some 5, op := Op.assign (Operand.const (Value.int IntKind.i64 0)), type := 24, pos := "ref.go:226", after := #[{ on := 8, ground := Ground.chain }, { on := 0, ground := Ground.phase }, { on := 1, ground := Ground.phase }, { on := 2, ground := Ground.phase }, { on := 3, ground := Ground.phase }, { on := 4, ground := Ground.phase }, { on := 5, ground := Ground.phase }, { on := 6, ground := Ground.phase }, { on := 7, ground := Ground.phase }, { on := 8, ground := Ground.phase }], guard := none }) (v := ?_) rfl (by kernel_rfl) (by kernel_rfl) (by kernel_rfl) (fun _ _ _ h => h) (Or.inl ⟨by rfl, ?_⟩) (by assumption) ?_
          rotate_left
          · (intro wq hSw; (try dsimp only at hSw); have a0 := hSw.a.c0; have a1 := hSw.a.c1; have a2 := hSw.a.c2; have a3 := hSw.a.c3; clear hSw; go_simp; first | done | with_reducible rfl)
          try simp only [Act.put, List.setIfInBounds_toArray, List.set_cons_zero, List.set_cons_succ]
          refine wpAnyH_done (by kernel_rfl) ?_ _
          have T9 := Lib.hid hHeld
          have OE := Lib.hid (owns_base (base' := w.heap.size) OD (by have := T9.out.cbl; omega))
          clear hHeld OD own2
          go_wp2
          exact bodyPost_ret (v := .tuple #[.slice (some ⟨v0.heap.size, 0, none⟩) 0 0, .int .i64 0]) (by simp [results, Try.results85, go_sem, *]) rfl ⟨_, _, rfl, T9.out.below, Lib.hid (Or.inr ⟨C.out, X, [], HX.out, Or.inl ⟨PC.out, rfl, rfl⟩, ⟨[], rfl, OE.out, fun j u D hu => by simp at hu⟩⟩)⟩
        refine AllReadyH.cons (o := { dst := some 29, op := Op.buildSlice 40 0 #[], type := 40, pos := "ref.go:226", after := #[], guard := none }) rfl (fun K hK => ?_) ?_
        · go_simp
          have nb := below_new v0 (.cells #[] 23)
          have zcc := hHeld.c.size
          have OR : (v0.alloc (.cells #[] 23)).ownsRow (cb + 1) 23 3 (.slice (some ⟨v0.heap.size, 0, none⟩) 0 0) 0 [] := World.ownsRow_lit v0 #[] 0 (by omega) (by unfold maxLen; omega) (by simp)
          have hS := hHeld.keep nb
          refine hK.out _ _ hS (fun hHeld => ?_)
          clear hK K hHeld
          clear nb zcc
          generalize v0.alloc (.cells #[] 23) = v5 at *
          have hHeld := hS
          clear hS
          try simp only [Act.put, List.setIfInBounds_toArray, List.set_cons_zero, List.set_cons_succ]
          refine wpAnyH_ready (rs := [0, 6]) (by kernel_rfl) (by simp) ?_
          refine AllReadyH.cons (o := { dst := some 26, op := Op.buildSlice 77 0 #[], type := 77, pos := "ref.go:226", after := #[], guard := none }) rfl (fun K hK => ?_) ?_
          · go_simp
            have nb := below_new v5 (.cells #[] 62)
            have zcc := hHeld.c.size
            have OR := owns_below OR nb
            have OD : (v5.alloc (.cells #[] 62)).ownsRow (cb + 1) 62 4 (.slice (some ⟨v5.heap.size, 0, none⟩) 0 0) 0 [] := World.ownsRow_lit v5 #[] 0 (by omega) (by unfold maxLen; omega) (by simp)
            have hS := hHeld.keep nb
            refine hK.out _ _ hS (fun hHeld => ?_)
            clear hK K hHeld
            clear nb zcc
            generalize v5.alloc (.cells #[] 62) = v6 at *
            have hHeld := hS
            clear hS
            try simp only [Act.put, List.setIfInBounds_toArray, List.set_cons_zero, List.set_cons_succ]
            refine wpAnyH_ready (rs := [6]) (by kernel_rfl) (by simp) ?_
            refine AllReadyH.cons (o := { dst := some 32, op := Op.call { callee := Callee.builtin Builtin.append, args := #[Operand.tmp 29, Operand.tmp 31], argTypes := #[40, 40] }, type := 40, pos := "ref.go:226", after := #[{ on := 3, ground := Ground.data }, { on := 5, ground := Ground.data }], guard := none }) rfl (fun K hK => ?_) AllReadyH.nil
            have SRC := At3.news (CA.out.under hHeld.below hba)
            have zcc := hHeld.c.size
            refine step_append_at rfl (.tmp 29) (.tmp 31) rfl (cb + 1) (.slice (some ⟨v0.heap.size, 0, none⟩) 0 0) 0 [] (by simp [Act.eval, Act.put]) OR ⟨ba, oa, none⟩ L.length cap (cells3 L) (by simp [Act.eval, Act.put]) (cells3_length L) SRC (cells3_one L) (by have := rk.out; omega) (by omega) ?_
            intro av v7 own2 grow2
            simp only [Nat.zero_add, List.nil_append] at own2
            have hq : Below (cb + 1) v6 v7 := (Below.refl _ _).grown grow2 (by omega) (fun g hg => (OR.lt g hg).1)
            have hS := hHeld.under hq (by omega)
            have OD := owns_kept2 OR OD grow2
            refine hK.out _ _ hS (fun hHeld => ?_)
            clear hK K hHeld
            clear hq grow2 SRC OR zcc
            have hHeld := hS
            clear hS
            try simp only [Act.put, List.setIfInBounds_toArray, List.set_cons_zero, List.set_cons_succ]
            refine wpAnyH_ready (rs := [7]) (by kernel_rfl) (by simp) ?_
            refine AllReadyH.cons (o := { dst := some 33, op := Op.call { callee := Callee.value (Operand.func 155), args := #[Operand.tmp 26, Operand.tmp 28, Operand.tmp 32], argTypes := #[77, 60, 40] }, type := 77, pos := "ref.go:226", after := #[{ on := 0, ground := Ground.data }, { on := 2, ground := Ground.data }, { on := 6, ground := Ground.data }, { on := 6, ground := Ground.chain }], guard := none }) rfl (fun K hK => ?_) AllReadyH.nil
            go_simp
            refine (rprod_none _ kk ss hh _ L _ ⟨_, _, _, rfl⟩ (Rd.of_own own2) (asc_ok UA.out) (Lib.hid (EL.out.trans PC.out))).mono ?_
            rintro e v8 ⟨rfl, hq⟩
            have hq : Below v7.heap.size v7 v8 := ⟨hq.os, hq.tape, hq.output, hq.size, hq.block⟩
            have hS := hHeld.keep hq
            have OD := owns_below OD hq
            go_wp2_with fail
            refine hK.out _ _ hS (fun hHeld => ?_)
            clear hK K hHeld
            clear hq
            have hHeld := hS
            clear hS
            try simp only [Act.put, List.setIfInBounds_toArray, List.set_cons_zero, List.set_cons_succ]
            refine wpAnyH_take (i := 8) (oi := { dst := some 4, op := Op.assign (Operand.tmp 33), type := 77, pos := "ref.go:226", after := #[{ on := 7, ground := Ground.data }, { on := 7, ground := Ground.chain }, { on := 0, ground := Ground.phase }, { on := 1, ground := Ground.phase }, { on := 2, ground := Ground.phase }, { on := 3, ground := Ground.phase }, { on := 4, ground := Ground.phase }, { on := 5, ground := Ground.phase }, { on := 6, ground := Ground.phase }, { on := 7, ground := Ground.phase }], guard := none }) (v := ?_) rfl (by kernel_rfl) (by kernel_rfl) (by kernel_rfl) (fun _ _ _ h => h) (Or.inl ⟨by rfl, ?_⟩) (by assumption) ?_
            rotate_left
            · (intro wq hSw; (try dsimp only at hSw); have a0 := hSw.a.c0; have a1 := hSw.a.c1; have a2 := hSw.a.c2; have a3 := hSw.a.c3; clear hSw; go_simp; first | done | with_reducible rfl)
            try simp only [Act.put, List.setIfInBounds_toArray, List.set_cons_zero, List.set_cons_succ]
            refine wpAnyH_take (i := 9) (oi := { dst := some 5, op := Op.assign (Operand.const (Value.int IntKind.i64 0)), type := 24, pos := "ref.go:226", after := #[{ on := 8, ground := Ground.chain }, { on := 0, ground := Ground.phase }, { on := 1, ground := Ground.phase }, { on := 2, ground := Ground.phase }, { on := 3, ground := Ground.phase }, { on := 4, ground := Ground.phase }, { on := 5, ground := Ground.phase }, { on := 6, ground := Ground.phase }, { on := 7, ground := Ground.phase }, { on := 8, ground := Ground.phase }], guard := none }) (v := ?_) rfl (by kernel_rfl) (by kernel_rfl) (by kernel_rfl) (fun _ _ _ h => h) (Or.inl ⟨by rfl, ?_⟩) (by assumption) ?_
            rotate_left
            · (intro wq hSw; (try dsimp only at hSw); have a0 := hSw.a.c0; have a1 := hSw.a.c1; have a2 := hSw.a.c2; have a3 := hSw.a.c3; clear hSw; go_simp; first | done | with_reducible rfl)
            try simp only [Act.put, List.setIfInBounds_toArray, List.set_cons_zero, List.set_cons_succ]
            refine wpAnyH_done (by kernel_rfl) ?_ _
            have T9 := Lib.hid hHeld
            have OE := Lib.hid (owns_base (base' := w.heap.size) OD (by have := T9.out.cbl; omega))
            clear hHeld OD own2
            go_wp2
            exact bodyPost_ret (v := .tuple #[.slice (some ⟨v5.heap.size, 0, none⟩) 0 0, .int .i64 0]) (by simp [results, Try.results85, go_sem, *]) rfl ⟨_, _, rfl, T9.out.below, Lib.hid (Or.inr ⟨C.out, X, [], HX.out, Or.inl ⟨PC.out, rfl, rfl⟩, ⟨[], rfl, OE.out, fun j u D hu => by simp at hu⟩⟩)⟩
          refine AllReadyH.cons (o := { dst := some 32, op := Op.call { callee := Callee.builtin Builtin.append, args := #[Operand.tmp 29, Operand.tmp 31], argTypes := #[40, 40] }, type := 40, pos := "ref.go:226", after := #[{ on := 3, ground := Ground.data }, { on := 5, ground := Ground.data }], guard := none }) rfl (fun K hK => ?_) ?_
          · have SRC := At3.news (CA.out.under hHeld.below hba)
            have zcc := hHeld.c.size
            refine step_append_at rfl (.tmp 29) (.tmp 31) rfl (cb + 1) (.slice (some ⟨v0.heap.size, 0, none⟩) 0 0) 0 [] (by simp [Act.eval, Act.put]) OR ⟨ba, oa, none⟩ L.length cap (cells3 L) (by simp [Act.eval, Act.put]) (cells3_length L) SRC (cells3_one L) (by have := rk.out; omega) (by omega) ?_
            intro av v9 own2 grow2
            simp only [Nat.zero_add, List.nil_append] at own2
            have hq : Below (cb + 1) v5 v9 := (Below.refl _ _).grown grow2 (by omega) (fun g hg => (OR.lt g hg).1)
            have hS := hHeld.under hq (by omega)
            refine hK.out _ _ hS (fun hHeld => ?_)
            clear hK K hHeld
            clear hq grow2 SRC OR zcc
            have hHeld := hS
            clear hS
            try simp only [Act.put, List.setIfInBounds_toArray, List.set_cons_zero, List.set_cons_succ]
            refine wpAnyH_ready (rs := [0]) (by kernel_rfl) (by simp) ?_
            refine AllReadyH.cons (o := { dst := some 26, op := Op.buildSlice 77 0 #[], type := 77, pos := "ref.go:226", after := #[], guard := none }) rfl (fun K hK => ?_) AllReadyH.nil
            go_simp
            have nb := below_new v9 (.cells #[] 62)
            have zcc := hHeld.c.size
            have own2 := owns_below own2 nb
            have OD : (v9.alloc (.cells #[] 62)).ownsRow (cb + 1) 62 4 (.slice (some ⟨v9.heap.size, 0, none⟩) 0 0) 0 [] := World.ownsRow_lit v9 #[] 0 (by omega) (by unfold maxLen; omega) (by simp)
            have hS := hHeld.keep nb
            refine hK.out _ _ hS (fun hHeld => ?_)
            clear hK K hHeld
            clear nb zcc
            generalize v9.alloc (.cells #[] 62) = v10 at *
            have hHeld := hS
            clear hS
            try simp only [Act.put, List.setIfInBounds_toArray, List.set_cons_zero, List.set_cons_succ]
            refine wpAnyH_ready (rs := [7]) (by kernel_rfl) (by simp) ?_
            refine AllReadyH.cons (o := { dst := some 33, op := Op.call { callee := Callee.value (Operand.func 155), args := #[Operand.tmp 26, Operand.tmp 28, Operand.tmp 32], argTypes := #[77, 60, 40] }, type := 77, pos := "ref.go:226", after := #[{ on := 0, ground := Ground.data }, { on := 2, ground := Ground.data }, { on := 6, ground := Ground.data }, { on := 6, ground := Ground.chain }], guard := none }) rfl (fun K hK => ?_) AllReadyH.nil
            go_simp
            refine (rprod_none _ kk ss hh _ L _ ⟨_, _, _, rfl⟩ (Rd.of_own own2) (asc_ok UA.out) (Lib.hid (EL.out.trans PC.out))).mono ?_
            rintro e v11 ⟨rfl, hq⟩
            have hq : Below v10.heap.size v10 v11 := ⟨hq.os, hq.tape, hq.output, hq.size, hq.block⟩
            have hS := hHeld.keep hq
            have OD := owns_below OD hq
            go_wp2_with fail
            refine hK.out _ _ hS (fun hHeld => ?_)
            clear hK K hHeld
            clear hq
            have hHeld := hS
            clear hS
            try simp only [Act.put, List.setIfInBounds_toArray, List.set_cons_zero, List.set_cons_succ]
            refine wpAnyH_take (i := 8) (oi := { dst := some 4, op := Op.assign (Operand.tmp 33), type := 77, pos := "ref.go:226", after := #[{ on := 7, ground := Ground.data }, { on := 7, ground := Ground.chain }, { on := 0, ground := Ground.phase }, { on := 1, ground := Ground.phase }, { on := 2, ground := Ground.phase }, { on := 3, ground := Ground.phase }, { on := 4, ground := Ground.phase }, { on := 5, ground := Ground.phase }, { on := 6, ground := Ground.phase }, { on := 7, ground := Ground.phase }], guard := none }) (v := ?_) rfl (by kernel_rfl) (by kernel_rfl) (by kernel_rfl) (fun _ _ _ h => h) (Or.inl ⟨by rfl, ?_⟩) (by assumption) ?_
            rotate_left
            · (intro wq hSw; (try dsimp only at hSw); have a0 := hSw.a.c0; have a1 := hSw.a.c1; have a2 := hSw.a.c2; have a3 := hSw.a.c3; clear hSw; go_simp; first | done | with_reducible rfl)
            try simp only [Act.put, List.setIfInBounds_toArray, List.set_cons_zero, List.set_cons_succ]
            refine wpAnyH_take (i := 9) (oi := { dst := some 5, op := Op.assign (Operand.const (Value.int IntKind.i64 0)), type := 24, pos := "ref.go:226", after := #[{ on := 8, ground := Ground.chain }, { on := 0, ground := Ground.phase }, { on := 1, ground := Ground.phase }, { on := 2, ground := Ground.phase }, { on := 3, ground := Ground.phase }, { on := 4, ground := Ground.phase }, { on := 5, ground := Ground.phase }, { on := 6, ground := Ground.phase }, { on := 7, ground := Ground.phase }, { on := 8, ground := Ground.phase }], guard := none }) (v := ?_) rfl (by kernel_rfl) (by kernel_rfl) (by kernel_rfl) (fun _ _ _ h => h) (Or.inl ⟨by rfl, ?_⟩) (by assumption) ?_
            rotate_left
            · (intro wq hSw; (try dsimp only at hSw); have a0 := hSw.a.c0; have a1 := hSw.a.c1; have a2 := hSw.a.c2; have a3 := hSw.a.c3; clear hSw; go_simp; first | done | with_reducible rfl)
            try simp only [Act.put, List.setIfInBounds_toArray, List.set_cons_zero, List.set_cons_succ]
            refine wpAnyH_done (by kernel_rfl) ?_ _
            have T9 := Lib.hid hHeld
            have OE := Lib.hid (owns_base (base' := w.heap.size) OD (by have := T9.out.cbl; omega))
            clear hHeld OD own2
            go_wp2
            exact bodyPost_ret (v := .tuple #[.slice (some ⟨v9.heap.size, 0, none⟩) 0 0, .int .i64 0]) (by simp [results, Try.results85, go_sem, *]) rfl ⟨_, _, rfl, T9.out.below, Lib.hid (Or.inr ⟨C.out, X, [], HX.out, Or.inl ⟨PC.out, rfl, rfl⟩, ⟨[], rfl, OE.out, fun j u D hu => by simp at hu⟩⟩)⟩
          exact AllReadyH.nil
        exact AllReadyH.nil
      · have PC := Lib.hid pl
        clear pl
        refine wp_region_held_drew (S := (fun w' => SbSt w (.slice (some ⟨ba, oa, none⟩) L.length cap) kk ss hh (.slice (some ⟨bb, ob, none⟩) M.length cap') k' s' h' cb (.slice ra X.length rc) X w')) (by kernel_rfl) (T4.out.keep (to_drew (Below.refl _ _))) (fun hHeld => ?_)
        clear T4
        obtain ⟨v0, hv0⟩ : ∃ v0, v0 = w4.drew := ⟨_, rfl⟩
        rw [← hv0] at hHeld ⊢
        clear hv0
        refine wpAnyH_take (i := 1) (oi := { dst := some 27, op := Op.fieldAddr 62 (Operand.tmp 2) 1, type := 0, pos := "ref.go:226", after := #[], guard := none }) (v := ?_) rfl (by kernel_rfl) (by kernel_rfl) (by kernel_rfl) (fun _ _ _ h => h) (Or.inl ⟨by rfl, ?_⟩) (by assumption) ?_
        rotate_left
        · (intro wq hSw; (try dsimp only at hSw); have a0 := hSw.a.c0; have a1 := hSw.a.c1; have a2 := hSw.a.c2; have a3 := hSw.a.c3; clear hSw; go_simp; first | done | with_reducible rfl)
        try simp only [Act.put, List.setIfInBounds_toArray, List.set_cons_zero, List.set_cons_succ]
        refine wpAnyH_take (i := 2) (oi := { dst := some 28, op := Op.load 60 (Operand.tmp 27), type := 60, pos := "ref.go:226", after := #[{ on := 1, ground := Ground.data }], guard := none }) (v := ?_) rfl (by kernel_rfl) (by kernel_rfl) (by kernel_rfl) (fun _ _ _ h => h) (Or.inl ⟨by rfl, ?_⟩) (by assumption) ?_
        rotate_left
        · (intro wq hSw; (try dsimp only at hSw); have a0 := hSw.a.c0; have a1 := hSw.a.c1; have a2 := hSw.a.c2; have a3 := hSw.a.c3; clear hSw; go_simp; first | done | with_reducible rfl)
        try simp only [Act.put, List.setIfInBounds_toArray, List.set_cons_zero, List.set_cons_succ]
        refine wpAnyH_take (i := 4) (oi := { dst := some 30, op := Op.fieldAddr 62 (Operand.tmp 2) 0, type := 0, pos := "ref.go:226", after := #[], guard := none }) (v := ?_) rfl (by kernel_rfl) (by kernel_rfl) (by kernel_rfl) (fun _ _ _ h => h) (Or.inl ⟨by rfl, ?_⟩) (by assumption) ?_
        rotate_left
        · (intro wq hSw; (try dsimp only at hSw); have a0 := hSw.a.c0; have a1 := hSw.a.c1; have a2 := hSw.a.c2; have a3 := hSw.a.c3; clear hSw; go_simp; first | done | with_reducible rfl)
        try simp only [Act.put, List.setIfInBounds_toArray, List.set_cons_zero, List.set_cons_succ]
        refine wpAnyH_take (i := 5) (oi := { dst := some 31, op := Op.load 40 (Operand.tmp 30), type := 40, pos := "ref.go:226", after := #[{ on := 4, ground := Ground.data }], guard := none }) (v := ?_) rfl (by kernel_rfl) (by kernel_rfl) (by kernel_rfl) (fun _ _ _ h => h) (Or.inl ⟨by rfl, ?_⟩) (by assumption) ?_
        rotate_left
        · (intro wq hSw; (try dsimp only at hSw); have a0 := hSw.a.c0; have a1 := hSw.a.c1; have a2 := hSw.a.c2; have a3 := hSw.a.c3; clear hSw; go_simp; first | done | with_reducible rfl)
        try simp only [Act.put, List.setIfInBounds_toArray, List.set_cons_zero, List.set_cons_succ]
        refine wpAnyH_ready (rs := [0, 3]) (by kernel_rfl) (by simp) ?_
        refine AllReadyH.cons (o := { dst := some 26, op := Op.buildSlice 77 0 #[], type := 77, pos := "ref.go:226", after := #[], guard := none }) rfl (fun K hK => ?_) ?_
        · go_simp
          have nb := below_new v0 (.cells #[] 62)
          have zcc := hHeld.c.size
          have OD : (v0.alloc (.cells #[] 62)).ownsRow (cb + 1) 62 4 (.slice (some ⟨v0.heap.size, 0, none⟩) 0 0) 0 [] := World.ownsRow_lit v0 #[] 0 (by omega) (by unfold maxLen; omega) (by simp)
          have hS := hHeld.keep nb
          refine hK.out _ _ hS (fun hHeld => ?_)
          clear hK K hHeld
          clear nb zcc
          generalize v0.alloc (.cells #[] 62) = v1 at *
          have hHeld := hS
          clear hS
          try simp only [Act.put, List.setIfInBounds_toArray, List.set_cons_zero, List.set_cons_succ]
          refine wpAnyH_ready (rs := [3]) (by kernel_rfl) (by simp) ?_
          refine AllReadyH.cons (o := { dst := some 29, op := Op.buildSlice 40 0 #[], type := 40, pos := "ref.go:226", after := #[], guard := none }) rfl (fun K hK => ?_) AllReadyH.nil
          go_simp
          have nb := below_new v1 (.cells #[] 23)
          have zcc := hHeld.c.size
          have OD := owns_below OD nb
          have OR : (v1.alloc (.cells #[] 23)).ownsRow (cb + 1) 23 3 (.slice (some ⟨v1.heap.size, 0, none⟩) 0 0) 0 [] := World.ownsRow_lit v1 #[] 0 (by omega) (by unfold maxLen; omega) (by simp)
          have hS := hHeld.keep nb
          refine hK.out _ _ hS (fun hHeld => ?_)
          clear hK K hHeld
          clear nb zcc
          generalize v1.alloc (.cells #[] 23) = v2 at *
          have hHeld := hS
          clear hS
          try simp only [Act.put, List.setIfInBounds_toArray, List.set_cons_zero, List.set_cons_succ]
          refine wpAnyH_ready (rs := [6]) (by kernel_rfl) (by simp) ?_
          refine AllReadyH.cons (o := { dst := some 32, op := Op.call { callee := Callee.builtin Builtin.append, args := #[Operand.tmp 29, Operand.tmp 31], argTypes := #[40, 40] }, type := 40, pos := "ref.go:226", after := #[{ on := 3, ground := Ground.data }, { on := 5, ground := Ground.data }], guard := none }) rfl (fun K hK => ?_) AllReadyH.nil
          have SRC := At3.news (CA.out.under hHeld.below hba)
          have zcc := hHeld.c.size
          refine step_append_at rfl (.tmp 29) (.tmp 31) rfl (cb + 1) (.slice (some ⟨v1.heap.size, 0, none⟩) 0 0) 0 [] (by simp [Act.eval, Act.put]) OR ⟨ba, oa, none⟩ L.length cap (cells3 L) (by simp [Act.eval, Act.put]) (cells3_length L) SRC (cells3_one L) (by have := rk.out; omega) (by omega) ?_
          intro av v3 own2 grow2
          simp only [Nat.zero_add, List.nil_append] at own2
          have hq : Below (cb + 1) v2 v3 := (Below.refl _ _).grown grow2 (by omega) (fun g hg => (OR.lt g hg).1)
          have hS := hHeld.under hq (by omega)
          have OD := owns_kept2 OR OD grow2
          refine hK.out _ _ hS (fun hHeld => ?_)
          clear hK K hHeld
          clear hq grow2 SRC OR zcc
          have hHeld := hS
          clear hS
          try simp only [Act.put, List.setIfInBounds_toArray, List.set_cons_zero, List.set_cons_succ]
          refine wpAnyH_ready (rs := [7]) (by kernel_rfl) (by simp) ?_
          refine AllReadyH.cons (o := { dst := some 33, op := Op.call { callee := Callee.value (Operand.func 155), args := #[Operand.tmp 26, Operand.tmp 28, Operand.tmp 32], argTypes := #[77, 60, 40] }, type := 77, pos := "ref.go:226", after := #[{ on := 0, ground := Ground.data }, { on := 2, ground := Ground.data }, { on := 6, ground := Ground.data }, { on := 6, ground := Ground.chain }], guard := none }) rfl (fun K hK => ?_) AllReadyH.nil
          go_simp
          refine (rprod_add (cb + 1) _ [] kk ss hh _ L (cb + 1) _ ⟨[], rfl, OD, fun j u D hu => by simp at hu⟩ own2 (Nat.le_refl _) (asc_ok UA.out) (Lib.hid ok.out.1) PC (by have := hHeld.c.size; omega) (by simp)).mono ?_
          rintro e v4 ⟨av2, rfl, hq, OD2, _⟩
          have hq : Below (cb + 1) v3 v4 := ⟨hq.os, hq.tape, hq.output, hq.size, hq.block⟩
          have hS := hHeld.under hq (by omega)
          go_wp2_with fail
          refine hK.out _ _ hS (fun hHeld => ?_)
          clear hK K hHeld
          clear hq
          have hHeld := hS
          clear hS
          try simp only [Act.put, List.setIfInBounds_toArray, List.set_cons_zero, List.set_cons_succ]
          refine wpAnyH_take (i := 8) (oi := { dst := some 4, op := Op.assign (Operand.tmp 33), type := 77, pos := "ref.go:226", after := #[{ on := 7, ground := Ground.data }, { on := 7, ground := Ground.chain }, { on := 0, ground := Ground.phase }, { on := 1, ground := Ground.phase }, { on := 2, ground := Ground.phase }, { on := 3, ground := Ground.phase }, { on := 4, ground := Ground.phase }, { on := 5, ground := Ground.phase }, { on := 6, ground := Ground.phase }, { on := 7, ground := Ground.phase }], guard := none }) (v := ?_) rfl (by kernel_rfl) (by kernel_rfl) (by kernel_rfl) (fun _ _ _ h => h) (Or.inl ⟨by rfl, ?_⟩) (by assumption) ?_
          rotate_left
          · (intro wq hSw; (try dsimp only at hSw); have a0 := hSw.a.c0; have a1 := hSw.a.c1; have a2 := hSw.a.c2; have a3 := hSw.a.c3; clear hSw; go_simp; first | done | with_reducible rfl)
          try simp only [Act.put, List.setIfInBounds_toArray, List.set_cons_zero, List.set_cons_succ]
          refine wpAnyH_take (i := 9) (oi := { dst := some 5, op := Op.assign (Operand.const (Value.int IntKind.i64 0)), type := 24, pos := "ref.go:226", after := #[{ on := 8, ground := Ground.chain }, { on := 0, ground := Ground.phase }, { on := 1, ground := Ground.phase }, { on := 2, ground := Ground.phase }, { on := 3, ground := Ground.phase }, { on := 4, ground := Ground.phase }, { on := 5, ground := Ground.phase }, { on := 6, ground := Ground.phase }, { on := 7, ground := Ground.phase }, { on := 8, ground := Ground.phase }], guard := none }) (v := ?_) rfl (by kernel_rfl) (by kernel_rfl) (by kernel_rfl) (fun _ _ _ h => h) (Or.inl ⟨by rfl, ?_⟩) (by assumption) ?_
          rotate_left
          · (intro wq hSw; (try dsimp only at hSw); have a0 := hSw.a.c0; have a1 := hSw.a.c1; have a2 := hSw.a.c2; have a3 := hSw.a.c3; clear hSw; go_simp; first | done | with_reducible rfl)
          try simp only [Act.put, List.setIfInBounds_toArray, List.set_cons_zero, List.set_cons_succ]
          refine wpAnyH_done (by kernel_rfl) ?_ _
          have T9 := Lib.hid hHeld
          have OE := Lib.hid (OD2.out.base (b' := w.heap.size) (by have := T9.out.cbl; omega))
          clear hHeld OD OD2 own2
          go_wp2
          exact bodyPost_ret (v := .tuple #[av2, .int .i64 0]) (by simp [results, Try.results85, go_sem, *]) rfl ⟨_, _, rfl, T9.out.below, Lib.hid (Or.inr ⟨C.out, X, [L], HX.out, Or.inr (Or.inl ⟨PC.out, PX.out, rfl, rfl⟩), OE.out⟩)⟩
        refine AllReadyH.cons (o := { dst := some 29, op := Op.buildSlice 40 0 #[], type := 40, pos := "ref.go:226", after := #[], guard := none }) rfl (fun K hK => ?_) ?_
        · go_simp
          have nb := below_new v0 (.cells #[] 23)
          have zcc := hHeld.c.size
          have OR : (v0.alloc (.cells #[] 23)).ownsRow (cb + 1) 23 3 (.slice (some ⟨v0.heap.size, 0, none⟩) 0 0) 0 [] := World.ownsRow_lit v0 #[] 0 (by omega) (by unfold maxLen; omega) (by simp)
          have hS := hHeld.keep nb
          refine hK.out _ _ hS (fun hHeld => ?_)
          clear hK K hHeld
          clear nb zcc
          generalize v0.alloc (.cells #[] 23) = v5 at *
          have hHeld := hS
          clear hS
          try simp only [Act.put, List.setIfInBounds_toArray, List.set_cons_zero, List.set_cons_succ]
          refine wpAnyH_ready (rs := [0, 6]) (by kernel_rfl) (by simp) ?_
          refine AllReadyH.cons (o := { dst := some 26, op := Op.buildSlice 77 0 #[], type := 77, pos := "ref.go:226", after := #[], guard := none }) rfl (fun K hK => ?_) ?_
          · go_simp
            have nb := below_new v5 (.cells #[] 62)
            have zcc := hHeld.c.size
            have OR := owns_below OR nb
            have OD : (v5.alloc (.cells #[] 62)).ownsRow (cb + 1) 62 4 (.slice (some ⟨v5.heap.size, 0, none⟩) 0 0) 0 [] := World.ownsRow_lit v5 #[] 0 (by omega) (by unfold maxLen; omega) (by simp)
            have hS := hHeld.keep nb
            refine hK.out _ _ hS (fun hHeld => ?_)
            clear hK K hHeld
            clear nb zcc
            generalize v5.alloc (.cells #[] 62) = v6 at *
            have hHeld := hS
            clear hS
            try simp only [Act.put, List.setIfInBounds_toArray, List.set_cons_zero, List.set_cons_succ]
            refine wpAnyH_ready (rs := [6]) (by kernel_rfl) (by simp) ?_
            refine AllReadyH.cons (o := { dst := some 32, op := Op.call { callee := Callee.builtin Builtin.append, args := #[Operand.tmp 29, Operand.tmp 31], argTypes := #[40, 40] }, type := 40, pos := "ref.go:226", after := #[{ on := 3, ground := Ground.data }, { on := 5, ground := Ground.data }], guard := none }) rfl (fun K hK => ?_) AllReadyH.nil
            have SRC := At3.news (CA.out.under hHeld.below hba)
            have zcc := hHeld.c.size
            refine step_append_at rfl (.tmp 29) (.tmp 31) rfl (cb + 1) (.slice (some ⟨v0.heap.size, 0, none⟩) 0 0) 0 [] (by simp [Act.eval, Act.put]) OR ⟨ba, oa, none⟩ L.length cap (cells3 L) (by simp [Act.eval, Act.put]) (cells3_length L) SRC (cells3_one L) (by have := rk.out; omega) (by omega) ?_
            intro av v7 own2 grow2
            simp only [Nat.zero_add, List.nil_append] at own2
            have hq : Below (cb + 1) v6 v7 := (Below.refl _ _).grown grow2 (by omega) (fun g hg => (OR.lt g hg).1)
            have hS := hHeld.under hq (by omega)
            have OD := owns_kept2 OR OD grow2
            refine hK.out _ _ hS (fun hHeld => ?_)
            clear hK K hHeld
            clear hq grow2 SRC OR zcc
            have hHeld := hS
            clear hS
            try simp only [Act.put, List.setIfInBounds_toArray, List.set_cons_zero, List.set_cons_succ]
            refine wpAnyH_ready (rs := [7]) (by kernel_rfl) (by simp) ?_
            refine AllReadyH.cons (o := { dst := some 33, op := Op.call { callee := Callee.value (Operand.func 155), args := #[Operand.tmp 26, Operand.tmp 28, Operand.tmp 32], argTypes := #[77, 60, 40] }, type := 77, pos := "ref.go:226", after := #[{ on := 0, ground := Ground.data }, { on := 2, ground := Ground.data }, { on := 6, ground := Ground.data }, { on := 6, ground := Ground.chain }], guard := none }) rfl (fun K hK => ?_) AllReadyH.nil
            go_simp
            refine (rprod_add (cb + 1) _ [] kk ss hh _ L (cb + 1) _ ⟨[], rfl, OD, fun j u D hu => by simp at hu⟩ own2 (Nat.le_refl _) (asc_ok UA.out) (Lib.hid ok.out.1) PC (by have := hHeld.c.size; omega) (by simp)).mono ?_
            rintro e v8 ⟨av2, rfl, hq, OD2, _⟩
            have hq : Below (cb + 1) v7 v8 := ⟨hq.os, hq.tape, hq.output, hq.size, hq.block⟩
            have hS := hHeld.under hq (by omega)
            go_wp2_with fail
            refine hK.out _ _ hS (fun hHeld => ?_)
            clear hK K hHeld
            clear hq
            have hHeld := hS
            clear hS
            try simp only [Act.put, List.setIfInBounds_toArray, List.set_cons_zero, List.set_cons_succ]
            refine wpAnyH_take (i := 8) (oi := { dst := some 4, op := Op.assign (Operand.tmp 33), type := 77, pos := "ref.go:226", after := #[{ on := 7, ground := Ground.data }, { on := 7, ground := Ground.chain }, { on := 0, ground := Ground.phase }, { on := 1, ground := Ground.phase }, { on := 2, ground := Ground.phase }, { on := 3, ground := Ground.phase }, { on := 4, ground := Ground.phase }, { on := 5, ground := Ground.phase }, { on := 6, ground := Ground.phase }, { on := 7, ground := Ground.phase }], guard := none }) (v := ?_) rfl (by kernel_rfl) (by kernel_rfl) (by kernel_rfl) (fun _ _ _ h => h) (Or.inl ⟨by rfl, ?_⟩) (by assumption) ?_
            rotate_left
            · (intro wq hSw; (try dsimp only at hSw); have a0 := hSw.a.c0; have a1 := hSw.a.c1; have a2 := hSw.a.c2; have a3 := hSw.a.c3; clear hSw; go_simp; first | done | with_reducible rfl)
            try simp only [Act.put, List.setIfInBounds_toArray, List.set_cons_zero, List.set_cons_succ]
            refine wpAnyH_take (i := 9) (oi := { dst := some 5, op := Op.assign (Operand.const (Value.int IntKind.i64 0)), type := 24, pos := "ref.go:226", after := #[{ on := 8, ground := Ground.chain }, { on := 0, ground := Ground.phase }, { on := 1, ground := Ground.phase }, { on := 2, ground := Ground.phase }, { on := 3, ground := Ground.phase }, { on := 4, ground := Ground.phase }, { on := 5, ground := Ground.phase }, { on := 6, ground := Ground.phase }, { on := 7, ground := Ground.phase }, { on := 8, ground := Ground.phase }], guard := none }) (v := ?_) rfl (by kernel_rfl) (by kernel_rfl) (by kernel_rfl) (fun _ _ _ h => h) (Or.inl ⟨by rfl, ?_⟩) (by assumption) ?_
            rotate_left
            · (intro wq hSw; (try dsimp only at hSw); have a0 := hSw.a.c0; have a1 := hSw.a.c1; have a2 := hSw.a.c2; have a3 := hSw.a.c3; clear hSw; go_simp; first | done | with_reducible rfl)
            try simp only [Act.put, List.setIfInBounds_toArray, List.set_cons_zero, List.set_cons_succ]
            refine wpAnyH_done (by kernel_rfl) ?_ _
            have T9 := Lib.hid hHeld
            have OE := Lib.hid (OD2.out.base (b' := w.heap.size) (by have := T9.out.cbl; omega))
            clear hHeld OD OD2 own2
            go_wp2
            exact bodyPost_ret (v := .tuple #[av2, .int .i64 0]) (by simp [results, Try.results85, go_sem, *]) rfl ⟨_, _, rfl, T9.out.below, Lib.hid (Or.inr ⟨C.out, X, [L], HX.out, Or.inr (Or.inl ⟨PC.out, PX.out, rfl, rfl⟩), OE.out⟩)⟩
          refine AllReadyH.cons (o := { dst := some 32, op := Op.call { callee := Callee.builtin Builtin.append, args := #[Operand.tmp 29, Operand.tmp 31], argTypes := #[40, 40] }, type := 40, pos := "ref.go:226", after := #[{ on := 3, ground := Ground.data }, { on := 5, ground := Ground.data }], guard := none }) rfl (fun K hK => ?_) ?_
          · have SRC := At3.news (CA.out.under hHeld.below hba)
            have zcc := hHeld.c.size
            refine step_append_at rfl (.tmp 29) (.tmp 31) rfl (cb + 1) (.slice (some ⟨v0.heap.size, 0, none⟩) 0 0) 0 [] (by simp [Act.eval, Act.put]) OR ⟨ba, oa, none⟩ L.length cap (cells3 L) (by simp [Act.eval, Act.put]) (cells3_length L) SRC (cells3_one L) (by have := rk.out; omega) (by omega) ?_
            intro av v9 own2 grow2
            simp only [Nat.zero_add, List.nil_append] at own2
            have hq : Below (cb + 1) v5 v9 := (Below.refl _ _).grown grow2 (by omega) (fun g hg => (OR.lt g hg).1)
            have hS := hHeld.under hq (by omega)
            refine hK.out _ _ hS (fun hHeld => ?_)
            clear hK K hHeld
            clear hq grow2 SRC OR zcc
            have hHeld := hS
            clear hS
            try simp only [Act.put, List.setIfInBounds_toArray, List.set_cons_zero, List.set_cons_succ]
            refine wpAnyH_ready (rs := [0]) (by kernel_rfl) (by simp) ?_
            refine AllReadyH.cons (o := { dst := some 26, op := Op.buildSlice 77 0 #[], type := 77, pos := "ref.go:226", after := #[], guard := none }) rfl (fun K hK => ?_) AllReadyH.nil
            go_simp
            have nb := below_new v9 (.cells #[] 62)
            have zcc := hHeld.c.size
            have own2 := owns_below own2 nb
            have OD : (v9.alloc (.cells #[] 62)).ownsRow (cb + 1) 62 4 (.slice (some ⟨v9.heap.size, 0, none⟩) 0 0) 0 [] := World.ownsRow_lit v9 #[] 0 (by omega) (by unfold maxLen; omega) (by simp)
            have hS := hHeld.keep nb
            refine hK.out _ _ hS (fun hHeld => ?_)
            clear hK K hHeld
            clear nb zcc
            generalize v9.alloc (.cells #[] 62) = v10 at *
            have hHeld := hS
            clear hS
            try simp only [Act.put, List.setIfInBounds_toArray, List.set_cons_zero, List.set_cons_succ]
            refine wpAnyH_ready (rs := [7]) (by kernel_rfl) (by simp) ?_
            refine AllReadyH.cons (o := { dst := some 33, op := Op.call { callee := Callee.value (Operand.func 155), args := #[Operand.tmp 26, Operand.tmp 28, Operand.tmp 32], argTypes := #[77, 60, 40] }, type := 77, pos := "ref.go:226", after := #[{ on := 0, ground := Ground.data }, { on := 2, ground := Ground.data }, { on := 6, ground := Ground.data }, { on := 6, ground := Ground.chain }], guard := none }) rfl (fun K hK => ?_) AllReadyH.nil
            go_simp
            refine (rprod_add (cb + 1) _ [] kk ss hh _ L (cb + 1) _ ⟨[], rfl, OD, fun j u D hu => by simp at hu⟩ own2 (Nat.le_refl _) (asc_ok UA.out) (Lib.hid ok.out.1) PC (by have := hHeld.c.size; omega) (by simp)).mono ?_
            rintro e v11 ⟨av2, rfl, hq, OD2, _⟩
            have hq : Below (cb + 1) v10 v11 := ⟨hq.os, hq.tape, hq.output, hq.size, hq.block⟩
            have hS := hHeld.under hq (by omega)
            go_wp2_with fail
            refine hK.out _ _ hS (fun hHeld => ?_)
            clear hK K hHeld
            clear hq
            have hHeld := hS
            clear hS
            try simp only [Act.put, List.setIfInBounds_toArray, List.set_cons_zero, List.set_cons_succ]
            refine wpAnyH_take (i := 8) (oi := { dst := some 4, op := Op.assign (Operand.tmp 33), type := 77, pos := "ref.go:226", after := #[{ on := 7, ground := Ground.data }, { on := 7, ground := Ground.chain }, { on := 0, ground := Ground.phase }, { on := 1, ground := Ground.phase }, { on := 2, ground := Ground.phase }, { on := 3, ground := Ground.phase }, { on := 4, ground := Ground.phase }, { on := 5, ground := Ground.phase }, { on := 6, ground := Ground.phase }, { on := 7, ground := Ground.phase }], guard := none }) (v := ?_) rfl (by kernel_rfl) (by kernel_rfl) (by kernel_rfl) (fun _ _ _ h => h) (Or.inl ⟨by rfl, ?_⟩) (by assumption) ?_
            rotate_left
            · (intro wq hSw; (try dsimp only at hSw); have a0 := hSw.a.c0; have a1 := hSw.a.c1; have a2 := hSw.a.c2; have a3 := hSw.a.c3; clear hSw; go_simp; first | done | with_reducible rfl)
            try simp only [Act.put, List.setIfInBounds_toArray, List.set_cons_zero, List.set_cons_succ]
            refine wpAnyH_take (i := 9) (oi := { dst := some 5, op := Op.assign (Operand.const (Value.int IntKind.i64 0)), type := 24, pos := "ref.go:226", after := #[{ on := 8, ground := Ground.chain }, { on := 0, ground := Ground.phase }, { on := 1, ground := Ground.phase }, { on := 2, ground := Ground.phase }, { on := 3, ground := Ground.phase }, { on := 4, ground := Ground.phase }, { on := 5, ground := Ground.phase }, { on := 6, ground := Ground.phase }, { on := 7, ground := Ground.phase }, { on := 8, ground := Ground.phase }], guard := none }) (v := ?_) rfl (by kernel_rfl) (by kernel_rfl) (by kernel_rfl) (fun _ _ _ h => h) (Or.inl ⟨by rfl, ?_⟩) (by assumption) ?_
            rotate_left
            · (intro wq hSw; (try dsimp only at hSw); have a0 := hSw.a.c0; have a1 := hSw.a.c1; have a2 := hSw.a.c2; have a3 := hSw.a.c3; clear hSw; go_simp; first | done | with_reducible rfl)
            try simp only [Act.put, List.setIfInBounds_toArray, List.set_cons_zero, List.set_cons_succ]
            refine wpAnyH_done (by kernel_rfl) ?_ _
            have T9 := Lib.hid hHeld
            have OE := Lib.hid (OD2.out.base (b' := w.heap.size) (by have := T9.out.cbl; omega))
            clear hHeld OD OD2 own2
            go_wp2
            exact bodyPost_ret (v := .tuple #[av2, .int .i64 0]) (by simp [results, Try.results85, go_sem, *]) rfl ⟨_, _, rfl, T9.out.below, Lib.hid (Or.inr ⟨C.out, X, [L], HX.out, Or.inr (Or.inl ⟨PC.out, PX.out, rfl, rfl⟩), OE.out⟩)⟩
          exact AllReadyH.nil
        exact AllReadyH.nil
    · have c' : (prodL X == 0) = false := by simp [c]
      have PX := Lib.hid c
      have PC : Hid (¬ prodL L = 0) := Lib.hid (fun e => c (meets_zero UA.out UB.out rk.out HX.out e))
      have SL : Hid (∀ x ∈ L, 1 ≤ siz x.1 x.2.1 x.2.2) := Lib.hid (fun x hx => siz_pos_of (by have := rk.out; omega) (by have := prodL_bd L; have := PC.out; omega) hx)
      have SX : Hid (∀ x ∈ X, 1 ≤ siz x.1 x.2.1 x.2.2) := Lib.hid (fun x hx => siz_pos_of (by have := rk.out; have := lx.out; omega) (by have := prodL_bd X; have := PX.out; omega) hx)
      clear c
      obtain ⟨cg, rfl⟩ : ∃ cg, ra = some ⟨cg, 0, none⟩ := owns_addr T4.out.row (by have := rk.out; have := lx.out; omega)
      have pl1 : 0 < L.length := by have := rk.out; omega
      have pm1 : 0 < M.length := by have := rk.out; have := ln.out; omega
      go_upto_region 6 with fail
      clear c'
      obtain ⟨A0, hA⟩ : ∃ A, L[0]? = some A := ⟨L[0]'(by omega), List.getElem?_eq_getElem _⟩
      obtain ⟨B0, hB⟩ : ∃ B, M[0]? = some B := ⟨M[0]'(by omega), List.getElem?_eq_getElem _⟩
      have pa := CA.out 0 A0 hA
      have pb := CB.out 0 B0 hB
      simp only [Nat.zero_mul, Nat.add_zero] at pa pb
      have PA0 := Lib.hid pa
      have PB0 := Lib.hid pb
      have OA0 := Lib.hid (UA.out A0 (List.mem_of_getElem? hA)).1
      have OB0 := Lib.hid (UB.out B0 (List.mem_of_getElem? hB)).1
      have FA0 := Lib.hid hA
      have FB0 := Lib.hid hB
      clear hA hB pa pb
      refine wp_region_held_drew (S := (fun w' => SbSt w (.slice (some ⟨ba, oa, none⟩) L.length cap) kk ss hh (.slice (some ⟨bb, ob, none⟩) M.length cap') k' s' h' cb (.slice (some ⟨cg, 0, none⟩) X.length rc) X w')) (by kernel_rfl) (T4.out.keep (to_drew (Below.refl _ _))) (fun hHeld => ?_)
      obtain ⟨v0, hv0⟩ : ∃ v0, v0 = w4.drew := ⟨_, rfl⟩
      rw [← hv0] at hHeld ⊢
      clear hv0
      refine wpAnyH_take (i := 0) (oi := { dst := some 35, op := Op.fieldAddr 62 (Operand.tmp 2) 0, type := 0, pos := "ref.go:228", after := #[], guard := none }) (v := ?_) rfl (by kernel_rfl) (by kernel_rfl) (by kernel_rfl) (fun _ _ _ h => h) (Or.inl ⟨by rfl, ?_⟩) (by assumption) ?_
      rotate_left
      · (intro wq hSw; (try dsimp only at hSw); have a0 := hSw.a.c0; have b0 := hSw.b.c0; have p0 := (hSw.below.cell (p := ⟨ba, oa, none⟩) hba).trans PA0.out.1; have q0 := (hSw.below.cell (p := ⟨bb, ob, none⟩) hbb).trans PB0.out.1; have p1 := (hSw.below.cell (p := ⟨ba, oa + 1, none⟩) hba).trans PA0.out.2.1; have q1 := (hSw.below.cell (p := ⟨bb, ob + 1, none⟩) hbb).trans PB0.out.2.1; have p2 := (hSw.below.cell (p := ⟨ba, oa + 2, none⟩) hba).trans PA0.out.2.2; have q2 := (hSw.below.cell (p := ⟨bb, ob + 2, none⟩) hbb).trans PB0.out.2.2; clear hSw; go_simp; first | done | with_reducible rfl)
      try simp only [Act.put, List.setIfInBounds_toArray, List.set_cons_zero, List.set_cons_succ]
      refine wpAnyH_take (i := 1) (oi := { dst := some 36, op := Op.load 40 (Operand.tmp 35), type := 40, pos := "ref.go:228", after := #[{ on := 0, ground := Ground.data }], guard := none }) (v := ?_) rfl (by kernel_rfl) (by kernel_rfl) (by kernel_rfl) (fun _ _ _ h => h) (Or.inl ⟨by rfl, ?_⟩) (by assumption) ?_
      rotate_left
      · (intro wq hSw; (try dsimp only at hSw); have a0 := hSw.a.c0; have b0 := hSw.b.c0; have p0 := (hSw.below.cell (p := ⟨ba, oa, none⟩) hba).trans PA0.out.1; have q0 := (hSw.below.cell (p := ⟨bb, ob, none⟩) hbb).trans PB0.out.1; have p1 := (hSw.below.cell (p := ⟨ba, oa + 1, none⟩) hba).trans PA0.out.2.1; have q1 := (hSw.below.cell (p := ⟨bb, ob + 1, none⟩) hbb).trans PB0.out.2.1; have p2 := (hSw.below.cell (p := ⟨ba, oa + 2, none⟩) hba).trans PA0.out.2.2; have q2 := (hSw.below.cell (p := ⟨bb, ob + 2, none⟩) hbb).trans PB0.out.2.2; clear hSw; go_simp; first | done | with_reducible rfl)
      try simp only [Act.put, List.setIfInBounds_toArray, List.set_cons_zero, List.set_cons_succ]
      refine wpAnyH_take (i := 2) (oi := { dst := some 37, op := Op.indexAddr 40 (Operand.tmp 36) (Operand.const (Value.int IntKind.i64 0)), type := 0, pos := "ref.go:228", after := #[{ on := 1, ground := Ground.data }], guard := none }) (v := ?_) rfl (by kernel_rfl) (by kernel_rfl) (by kernel_rfl) (fun _ _ _ h => h) (Or.inl ⟨by rfl, ?_⟩) (by assumption) ?_
      rotate_left
      · (intro wq hSw; (try dsimp only at hSw); have a0 := hSw.a.c0; have b0 := hSw.b.c0; have p0 := (hSw.below.cell (p := ⟨ba, oa, none⟩) hba).trans PA0.out.1; have q0 := (hSw.below.cell (p := ⟨bb, ob, none⟩) hbb).trans PB0.out.1; have p1 := (hSw.below.cell (p := ⟨ba, oa + 1, none⟩) hba).trans PA0.out.2.1; have q1 := (hSw.below.cell (p := ⟨bb, ob + 1, none⟩) hbb).trans PB0.out.2.1; have p2 := (hSw.below.cell (p := ⟨ba, oa + 2, none⟩) hba).trans PA0.out.2.2; have q2 := (hSw.below.cell (p := ⟨bb, ob + 2, none⟩) hbb).trans PB0.out.2.2; clear hSw; go_simp; first | done | with_reducible rfl)
      try simp only [Act.put, List.setIfInBounds_toArray, List.set_cons_zero, List.set_cons_succ]
      refine wpAnyH_take (i := 3) (oi := { dst := some 38, op := Op.load 23 (Operand.tmp 37), type := 23, pos := "ref.go:228", after := #[{ on := 2, ground := Ground.data }], guard := none }) (v := ?_) rfl (by kernel_rfl) (by kernel_rfl) (by kernel_rfl) (fun _ _ _ h => h) (Or.inl ⟨by rfl, ?_⟩) (by assumption) ?_
      rotate_left
      · (intro wq hSw; (try dsimp only at hSw); have a0 := hSw.a.c0; have b0 := hSw.b.c0; have p0 := (hSw.below.cell (p := ⟨ba, oa, none⟩) hba).trans PA0.out.1; have q0 := (hSw.below.cell (p := ⟨bb, ob, none⟩) hbb).trans PB0.out.1; have p1 := (hSw.below.cell (p := ⟨ba, oa + 1, none⟩) hba).trans PA0.out.2.1; have q1 := (hSw.below.cell (p := ⟨bb, ob + 1, none⟩) hbb).trans PB0.out.2.1; have p2 := (hSw.below.cell (p := ⟨ba, oa + 2, none⟩) hba).trans PA0.out.2.2; have q2 := (hSw.below.cell (p := ⟨bb, ob + 2, none⟩) hbb).trans PB0.out.2.2; clear hSw; go_simp; first | done | with_reducible rfl)
      try simp only [Act.put, List.setIfInBounds_toArray, List.set_cons_zero, List.set_cons_succ]
      refine wpAnyH_take (i := 4) (oi := { dst := some 39, op := Op.fieldAddr 62 (Operand.tmp 3) 0, type := 0, pos := "ref.go:228", after := #[], guard := none }) (v := ?_) rfl (by kernel_rfl) (by kernel_rfl) (by kernel_rfl) (fun _ _ _ h => h) (Or.inl ⟨by rfl, ?_⟩) (by assumption) ?_
      rotate_left
      · (intro wq hSw; (try dsimp only at hSw); have a0 := hSw.a.c0; have b0 := hSw.b.c0; have p0 := (hSw.below.cell (p := ⟨ba, oa, none⟩) hba).trans PA0.out.1; have q0 := (hSw.below.cell (p := ⟨bb, ob, none⟩) hbb).trans PB0.out.1; have p1 := (hSw.below.cell (p := ⟨ba, oa + 1, none⟩) hba).trans PA0.out.2.1; have q1 := (hSw.below.cell (p := ⟨bb, ob + 1, none⟩) hbb).trans PB0.out.2.1; have p2 := (hSw.below.cell (p := ⟨ba, oa + 2, none⟩) hba).trans PA0.out.2.2; have q2 := (hSw.below.cell (p := ⟨bb, ob + 2, none⟩) hbb).trans PB0.out.2.2; clear hSw; go_simp; first | done | with_reducible rfl)
      try simp only [Act.put, List.setIfInBounds_toArray, List.set_cons_zero, List.set_cons_succ]
      refine wpAnyH_take (i := 5) (oi := { dst := some 40, op := Op.load 40 (Operand.tmp 39), type := 40, pos := "ref.go:228", after := #[{ on := 4, ground := Ground.data }], guard := none }) (v := ?_) rfl (by kernel_rfl) (by kernel_rfl) (by kernel_rfl) (fun _ _ _ h => h) (Or.inl ⟨by rfl, ?_⟩) (by assumption) ?_
      rotate_left
      · (intro wq hSw; (try dsimp only at hSw); have a0 := hSw.a.c0; have b0 := hSw.b.c0; have p0 := (hSw.below.cell (p := ⟨ba, oa, none⟩) hba).trans PA0.out.1; have q0 := (hSw.below.cell (p := ⟨bb, ob, none⟩) hbb).trans PB0.out.1; have p1 := (hSw.below.cell (p := ⟨ba, oa + 1, none⟩) hba).trans PA0.out.2.1; have q1 := (hSw.below.cell (p := ⟨bb, ob + 1, none⟩) hbb).trans PB0.out.2.1; have p2 := (hSw.below.cell (p := ⟨ba, oa + 2, none⟩) hba).trans PA0.out.2.2; have q2 := (hSw.below.cell (p := ⟨bb, ob + 2, none⟩) hbb).trans PB0.out.2.2; clear hSw; go_simp; first | done | with_reducible rfl)
      try simp only [Act.put, List.setIfInBounds_toArray, List.set_cons_zero, List.set_cons_succ]
      refine wpAnyH_take (i := 6) (oi := { dst := some 41, op := Op.indexAddr 40 (Operand.tmp 40) (Operand.const (Value.int IntKind.i64 0)), type := 0, pos := "ref.go:228", after := #[{ on := 5, ground := Ground.data }], guard := none }) (v := ?_) rfl (by kernel_rfl) (by kernel_rfl) (by kernel_rfl) (fun _ _ _ h => h) (Or.inl ⟨by rfl, ?_⟩) (by assumption) ?_
      rotate_left
      · (intro wq hSw; (try dsimp only at hSw); have a0 := hSw.a.c0; have b0 := hSw.b.c0; have p0 := (hSw.below.cell (p := ⟨ba, oa, none⟩) hba).trans PA0.out.1; have q0 := (hSw.below.cell (p := ⟨bb, ob, none⟩) hbb).trans PB0.out.1; have p1 := (hSw.below.cell (p := ⟨ba, oa + 1, none⟩) hba).trans PA0.out.2.1; have q1 := (hSw.below.cell (p := ⟨bb, ob + 1, none⟩) hbb).trans PB0.out.2.1; have p2 := (hSw.below.cell (p := ⟨ba, oa + 2, none⟩) hba).trans PA0.out.2.2; have q2 := (hSw.below.cell (p := ⟨bb, ob + 2, none⟩) hbb).trans PB0.out.2.2; clear hSw; go_simp; first | done | with_reducible rfl)
      try simp only [Act.put, List.setIfInBounds_toArray, List.set_cons_zero, List.set_cons_succ]
      refine wpAnyH_take (i := 7) (oi := { dst := some 42, op := Op.load 23 (Operand.tmp 41), type := 23, pos := "ref.go:228", after := #[{ on := 6, ground := Ground.data }], guard := none }) (v := ?_) rfl (by kernel_rfl) (by kernel_rfl) (by kernel_rfl) (fun _ _ _ h => h) (Or.inl ⟨by rfl, ?_⟩) (by assumption) ?_
      rotate_left
      · (intro wq hSw; (try dsimp only at hSw); have a0 := hSw.a.c0; have b0 := hSw.b.c0; have p0 := (hSw.below.cell (p := ⟨ba, oa, none⟩) hba).trans PA0.out.1; have q0 := (hSw.below.cell (p := ⟨bb, ob, none⟩) hbb).trans PB0.out.1; have p1 := (hSw.below.cell (p := ⟨ba, oa + 1, none⟩) hba).trans PA0.out.2.1; have q1 := (hSw.below.cell (p := ⟨bb, ob + 1, none⟩) hbb).trans PB0.out.2.1; have p2 := (hSw.below.cell (p := ⟨ba, oa + 2, none⟩) hba).trans PA0.out.2.2; have q2 := (hSw.below.cell (p := ⟨bb, ob + 2, none⟩) hbb).trans PB0.out.2.2; clear hSw; go_simp; first | done | with_reducible rfl)
      try simp only [Act.put, List.setIfInBounds_toArray, List.set_cons_zero, List.set_cons_succ]
      refine wpAnyH_ready (rs := [8]) (by kernel_rfl) (by simp) ?_
      refine AllReadyH.cons (o := { dst := some 43, op := Op.call { callee := Callee.value (Operand.func 46), args := #[Operand.tmp 38, Operand.tmp 42], argTypes := #[23, 23] }, type := 41, pos := "ref.go:228", after := #[{ on := 3, ground := Ground.data }, { on := 7, ground := Ground.data }], guard := none }) rfl (fun K hK => ?_) AllReadyH.nil
      go_simp
      refine (refSubtract_ok _ _ _ _ _ _ _ OA0 OB0).mono ?_
      rintro e w6 ⟨l0, h0, s0, hF, pv, pe, rfl, hq, hP⟩
      have hq : Below v0.heap.size v0 w6 := ⟨hq.os, hq.tape, hq.output, hq.size, hq.block⟩
      have zq := hHeld.c.size
      have HP0 := Lib.hid hP
      have SQ0 : Hid (SubsP L M 0 _) := Lib.hid ⟨A0, B0, l0, h0, s0, FA0.out, FB0.out, hF, rfl⟩
      clear hP hF
      generalize subAll A0.1 A0.2.1 A0.2.2 l0 h0 s0 = P at *
      have hS := hHeld.keep hq
      go_wp2_with fail
      refine hK.out _ _ hS (fun hHeld => ?_)
      clear hK K hHeld
      clear hq
      have hHeld := hS
      clear hS
      try simp only [Act.put, List.setIfInBounds_toArray, List.set_cons_zero, List.set_cons_succ]
      refine wpAnyH_take (i := 9) (oi := { dst := some 34, op := Op.move (Operand.tmp 43), type := 41, pos := "ref.go:228", after := #[{ on := 8, ground := Ground.data }], guard := none }) (v := ?_) rfl (by kernel_rfl) (by kernel_rfl) (by kernel_rfl) (fun _ _ _ h => h) (Or.inl ⟨by rfl, ?_⟩) (by assumption) ?_
      rotate_left
      · (intro wq hSw; (try dsimp only at hSw); have a0 := hSw.a.c0; have b0 := hSw.b.c0; have p0 := (hSw.below.cell (p := ⟨ba, oa, none⟩) hba).trans PA0.out.1; have q0 := (hSw.below.cell (p := ⟨bb, ob, none⟩) hbb).trans PB0.out.1; have p1 := (hSw.below.cell (p := ⟨ba, oa + 1, none⟩) hba).trans PA0.out.2.1; have q1 := (hSw.below.cell (p := ⟨bb, ob + 1, none⟩) hbb).trans PB0.out.2.1; have p2 := (hSw.below.cell (p := ⟨ba, oa + 2, none⟩) hba).trans PA0.out.2.2; have q2 := (hSw.below.cell (p := ⟨bb, ob + 2, none⟩) hbb).trans PB0.out.2.2; clear hSw; go_simp; first | done | with_reducible rfl)
      try simp only [Act.put, List.setIfInBounds_toArray, List.set_cons_zero, List.set_cons_succ]
      refine wpAnyH_take (i := 10) (oi := { dst := some 44, op := Op.extract (Operand.tmp 34) 0, type := 40, pos := "ref.go:228", after := #[{ on := 9, ground := Ground.data }], guard := none }) (v := ?_) rfl (by kernel_rfl) (by kernel_rfl) (by kernel_rfl) (fun _ _ _ h => h) (Or.inl ⟨by rfl, ?_⟩) (by assumption) ?_
      rotate_left
      · (intro wq hSw; (try dsimp only at hSw); have a0 := hSw.a.c0; have b0 := hSw.b.c0; have p0 := (hSw.below.cell (p := ⟨ba, oa, none⟩) hba).trans PA0.out.1; have q0 := (hSw.below.cell (p := ⟨bb, ob, none⟩) hbb).trans PB0.out.1; have p1 := (hSw.below.cell (p := ⟨ba, oa + 1, none⟩) hba).trans PA0.out.2.1; have q1 := (hSw.below.cell (p := ⟨bb, ob + 1, none⟩) hbb).trans PB0.out.2.1; have p2 := (hSw.below.cell (p := ⟨ba, oa + 2, none⟩) hba).trans PA0.out.2.2; have q2 := (hSw.below.cell (p := ⟨bb, ob + 2, none⟩) hbb).trans PB0.out.2.2; clear hSw; go_simp; first | done | with_reducible rfl)
      try simp only [Act.put, List.setIfInBounds_toArray, List.set_cons_zero, List.set_cons_succ]
      refine wpAnyH_take (i := 11) (oi := { dst := some 45, op := Op.extract (Operand.tmp 34) 1, type := 24, pos := "ref.go:228", after := #[{ on := 9, ground := Ground.data }, { on := 12, ground := Ground.gcOnly Departure.lateStores }], guard := none }) (v := ?_) rfl (by kernel_rfl) (by kernel_rfl) (by kernel_rfl) (fun _ _ _ h => h) (Or.inl ⟨by rfl, ?_⟩) (by assumption) ?_
      rotate_left
      · (intro wq hSw; (try dsimp only at hSw); have a0 := hSw.a.c0; have b0 := hSw.b.c0; have p0 := (hSw.below.cell (p := ⟨ba, oa, none⟩) hba).trans PA0.out.1; have q0 := (hSw.below.cell (p := ⟨bb, ob, none⟩) hbb).trans PB0.out.1; have p1 := (hSw.below.cell (p := ⟨ba, oa + 1, none⟩) hba).trans PA0.out.2.1; have q1 := (hSw.below.cell (p := ⟨bb, ob + 1, none⟩) hbb).trans PB0.out.2.1; have p2 := (hSw.below.cell (p := ⟨ba, oa + 2, none⟩) hba).trans PA0.out.2.2; have q2 := (hSw.below.cell (p := ⟨bb, ob + 2, none⟩) hbb).trans PB0.out.2.2; clear hSw; go_simp; first | done | with_reducible rfl)
      try simp only [Act.put, List.setIfInBounds_toArray, List.set_cons_zero, List.set_cons_succ]
      refine wpAnyH_take (i := 12) (oi := { dst := some 8, op := Op.assign (Operand.tmp 44), type := 40, pos := "ref.go:228", after := #[{ on := 10, ground := Ground.data }, { on := 8, ground := Ground.chain }, { on := 0, ground := Ground.phase }, { on := 1, ground := Ground.phase }, { on := 2, ground := Ground.phase }, { on := 3, ground := Ground.phase }, { on := 4, ground := Ground.phase }, { on := 5, ground := Ground.phase }, { on := 6, ground := Ground.phase }, { on := 7, ground := Ground.phase }, { on := 8, ground := Ground.phase }, { on := 9, ground := Ground.phase }, { on := 10, ground := Ground.phase }, { on := 11, ground := Ground.textOnly Departure.lateStores }], guard := none }) (v := ?_) rfl (by kernel_rfl) (by kernel_rfl) (by kernel_rfl) (fun _ _ _ h => h) (Or.inl ⟨by rfl, ?_⟩) (by assumption) ?_
      rotate_left
      · (intro wq hSw; (try dsimp only at hSw); have a0 := hSw.a.c0; have b0 := hSw.b.c0; have p0 := (hSw.below.cell (p := ⟨ba, oa, none⟩) hba).trans PA0.out.1; have q0 := (hSw.below.cell (p := ⟨bb, ob, none⟩) hbb).trans PB0.out.1; have p1 := (hSw.below.cell (p := ⟨ba, oa + 1, none⟩) hba).trans PA0.out.2.1; have q1 := (hSw.below.cell (p := ⟨bb, ob + 1, none⟩) hbb).trans PB0.out.2.1; have p2 := (hSw.below.cell (p := ⟨ba, oa + 2, none⟩) hba).trans PA0.out.2.2; have q2 := (hSw.below.cell (p := ⟨bb, ob + 2, none⟩) hbb).trans PB0.out.2.2; clear hSw; go_simp; first | done | with_reducible rfl)
      try simp only [Act.put, List.setIfInBounds_toArray, List.set_cons_zero, List.set_cons_succ]
      refine wpAnyH_take (i := 13) (oi := { dst := some 7, op := Op.assign (Operand.tmp 45), type := 24, pos := "ref.go:228", after := #[{ on := 11, ground := Ground.data }, { on := 12, ground := Ground.chain }, { on := 0, ground := Ground.phase }, { on := 1, ground := Ground.phase }, { on := 2, ground := Ground.phase }, { on := 3, ground := Ground.phase }, { on := 4, ground := Ground.phase }, { on := 5, ground := Ground.phase }, { on := 6, ground := Ground.phase }, { on := 7, ground := Ground.phase }, { on := 8, ground := Ground.phase }, { on := 9, ground := Ground.phase }, { on := 10, ground := Ground.phase }, { on := 11, ground := Ground.phase }, { on := 12, ground := Ground.phase }], guard := none }) (v := ?_) rfl (by kernel_rfl) (by kernel_rfl) (by kernel_rfl) (fun _ _ _ h => h) (Or.inl ⟨by rfl, ?_⟩) (by assumption) ?_
      rotate_left
      · (intro wq hSw; (try dsimp only at hSw); have a0 := hSw.a.c0; have b0 := hSw.b.c0; have p0 := (hSw.below.cell (p := ⟨ba, oa, none⟩) hba).trans PA0.out.1; have q0 := (hSw.below.cell (p := ⟨bb, ob, none⟩) hbb).trans PB0.out.1; have p1 := (hSw.below.cell (p := ⟨ba, oa + 1, none⟩) hba).trans PA0.out.2.1; have q1 := (hSw.below.cell (p := ⟨bb, ob + 1, none⟩) hbb).trans PB0.out.2.1; have p2 := (hSw.below.cell (p := ⟨ba, oa + 2, none⟩) hba).trans PA0.out.2.2; have q2 := (hSw.below.cell (p := ⟨bb, ob + 2, none⟩) hbb).trans PB0.out.2.2; clear hSw; go_simp; first | done | with_reducible rfl)
      try simp only [Act.put, List.setIfInBounds_toArray, List.set_cons_zero, List.set_cons_succ]
      refine wpAnyH_done (by kernel_rfl) ?_ _
      have T6 := Lib.hid hHeld
      clear hHeld
      rcases HP0.out with ⟨big, rfl, rfl⟩ | ⟨small, rfl, own⟩
      · have BIG := Lib.hid big
        clear big HP0
        go_wp2
        exact bodyPost_ret (v := .tuple #[.slice none 0 0, .int .i64 7]) (by simp [results, Try.results85, go_sem, *]) rfl ⟨_, _, rfl, T6.out.below, Lib.hid (Or.inr ⟨C.out, X, [], HX.out, Or.inr (Or.inr ⟨PC.out, PX.out, [], fun i P h => (by simp at h), Or.inr ⟨P, pl1, fun Q hQ => (by cases hQ), SQ0.out, BIG.out, rfl, rfl⟩⟩), OwnD.nil _ _ _ _ _⟩)⟩
      · have SM0 := Lib.hid small
        have zc := T6.out.c.size
        have OP6 : Hid (w6.ownsRow (cb + 1) 23 3 pv P.length (cells3 P)) := Lib.hid (owns_base own (by omega))
        clear own HP0 small zq
        obtain ⟨pa, pc, rfl⟩ := owns_slice OP6.out
        go_upto_region 10 with fail
        have nb := below_new w6 (.cells #[] 62)
        have T7 := Lib.hid (T6.out.keep nb)
        have OP7 := Lib.hid (owns_below OP6.out nb)
        have OD7 : Hid (OwnD (cb + 1) (w6.alloc (.cells #[] 62)) (.slice (some ⟨w6.heap.size, 0, none⟩) 0 0) [] kk ss hh) := Lib.hid ⟨[], rfl, World.ownsRow_lit w6 #[] 0 (by omega) (by unfold maxLen; omega) (by simp), fun j u D hu => by simp at hu⟩
        clear nb T6 OP6 zc
        generalize w6.alloc (.cells #[] 62) = w7 at *
        generalize w6.heap.size = ob0 at *
        go_wp2_with fail
        go_loopg [9, 10, 11] (P.length + 1) (fun gh v9 v10 _ wr => ∃ j : Nat, v10 = .int .i64 j ∧ (j ≤ P.length ∧ P.length - j < gh) ∧ Hid (SbSt w (.slice (some ⟨ba, oa, none⟩) L.length cap) kk ss hh (.slice (some ⟨bb, ob, none⟩) M.length cap') k' s' h' cb (.slice (some ⟨cg, 0, none⟩) X.length rc) X wr) ∧ Hid (OwnD (cb + 1) wr v9 (pcs X L 0 (P.take j)) kk ss hh) ∧ Hid (wr.ownsRow (cb + 1) 23 3 (.slice pa P.length pc) P.length (cells3 P)))
        case atStart => exact ⟨0, rfl, ⟨by omega, by omega⟩, T7, Lib.hid (by simpa [pcs] using OD7.out), OP7⟩
        case round =>
          obtain ⟨j, rfl, ⟨j0, jg⟩, T8, OD8, OP8⟩ := hrel
          have KG2 := Lib.hid jg
          clear jg
          by_cases hj : j < P.length
          · obtain ⟨x, hx⟩ : ∃ x, P[j]? = some x := ⟨P[j], List.getElem?_eq_getElem hj⟩
            obtain ⟨pg, rfl⟩ : ∃ pg, pa = some ⟨pg, 0, none⟩ := owns_addr OP8.out (by omega)
            obtain ⟨p0, p1, p2⟩ := owns_at OP8.out j x hx
            have HXX := Lib.hid hx
            have XO : Hid (Pc x) := Lib.hid (piece_ok UA.out UB.out SQ0.out x (List.mem_of_getElem? hx))
            have jw : IntKind.i64.wrap ((j : Int) + 1) = (j : Int) + 1 := IntWalk.i64_in _ (by have := SM0.out; omega)
            have jm : (P.length : Int) ≤ 1000 := by have := SM0.out; omega
            clear hx
            obtain ⟨D, hD⟩ : ∃ D, D = [x] ++ L.drop 1 := ⟨_, rfl⟩
            have HD := Lib.hid hD
            clear hD
            have DN : Hid (D.length = L.length) := Lib.hid (by rw [HD.out, List.length_append, List.length_singleton, List.length_drop]; omega)
            have DA : Hid (∀ y ∈ D, Pc y) := Lib.hid (fun y hy => by
              rw [HD.out] at hy
              rcases List.mem_append.1 hy with hy | hy
              · simp at hy; subst hy; exact XO.out
              · exact Pc.mk (UA.out y (List.mem_of_mem_drop hy)) (SL.out y (List.mem_of_mem_drop hy)))
            have DC : Hid (dchk D kk ss hh = 0) := Lib.hid (dchk_of (by have := rk.out; have := DN.out; omega) (fun y hy => (DA.out y hy).asc) PL.out)
            have DP : Hid (¬ prodL D = 0) := Lib.hid (prod_ne (by have := rk.out; have := DN.out; omega) (fun y hy => (DA.out y hy).num))
            go_upto_region 14 with fail
            have NB := Lib.hid (below_new wr (.cells #[.int .i64 x.1, .int .i64 x.2.1, .int .i64 x.2.2] 23))
            have DR : Hid ((wr.alloc (.cells #[.int .i64 x.1, .int .i64 x.2.1, .int .i64 x.2.2] 23)).ownsRow wr.heap.size 23 3 (.slice (some ⟨wr.heap.size, 0, none⟩) 1 1) 1 (cells3 [x])) := Lib.hid (World.ownsRow_lit wr #[.int .i64 x.1, .int .i64 x.2.1, .int .i64 x.2.2] 1 (Nat.le_refl _) (by unfold maxLen; omega) (by simp))
            clear p0 p1 p2
            have zc := T8.out.c.size
            have lcap : (L.length : Int) ≤ cap := by omega
            have lcap1 : (1 : Int) ≤ L.length := by omega
            obtain ⟨oz, hz, hzz⟩ : ∃ oz : Nat, (if cap = 1 then some (⟨ba, oa, none⟩ : Addr) else some ⟨ba, oa + 3, none⟩) = some ⟨ba, oz, none⟩ ∧ Hid (¬ cap = 1 → oz = oa + 3) := by
              by_cases c : cap = 1
              · exact ⟨oa, by rw [if_pos c], Lib.hid fun h => absurd c h⟩
              · exact ⟨_, by rw [if_neg c], Lib.hid fun _ => rfl⟩
            have AT : Hid (∀ W, Below wr.heap.size wr W → ∀ j u, (cells3 (L.drop 1))[j]? = some u → W.cell? ((⟨ba, oz, none⟩ : Addr).add j) = some u) := Lib.hid (fun W hW => by
              by_cases c : cap = 1
              · intro j u hu
                have : L.drop 1 = [] := List.eq_nil_of_length_eq_zero (by rw [List.length_drop]; omega)
                rw [this] at hu
                simp [cells3] at hu
              · rw [hzz.out c]
                have A1 := (CA.out.under (T8.out.below.trans (hW.mono T8.out.below.size)) hba).drop 1
                exact At3.news A1)
            generalize wr.alloc (.cells #[.int .i64 x.1, .int .i64 x.2.1, .int .i64 x.2.2] 23) = w9 at *
            refine wp_region_held_drew (S := (fun w' => Below (cb + 1) wr w')) (by kernel_rfl) ((to_drew NB.out).mono (by omega)) (fun hHeld => ?_)
            have HB := to_drew NB.out
            have DR := owns_below DR.out (to_drew (Below.refl _ _))
            clear NB
            obtain ⟨v0, hv0⟩ : ∃ v0, v0 = w9.drew := ⟨_, rfl⟩
            rw [← hv0] at hHeld HB DR ⊢
            clear hv0
            refine wpAnyH_take (i := 0) (oi := { dst := some 61, op := Op.move (Operand.tmp 9), type := 77, pos := "ref.go:235", after := #[], guard := none }) (v := ?_) rfl (by kernel_rfl) (by kernel_rfl) (by kernel_rfl) (fun _ _ _ h => h) (Or.inl ⟨by rfl, ?_⟩) (by assumption) ?_
            rotate_left
            · (intro wq hSw; (try dsimp only at hSw); have TT := T8.out.under hSw (Nat.lt_succ_self _); have a0 := TT.a.c0; have a1 := TT.a.c1; have a2 := TT.a.c2; have a3 := TT.a.c3; clear TT; clear hSw; go_simp; first | done | with_reducible rfl)
            try simp only [Act.put, List.setIfInBounds_toArray, List.set_cons_zero, List.set_cons_succ]
            refine wpAnyH_take (i := 1) (oi := { dst := some 62, op := Op.fieldAddr 62 (Operand.tmp 2) 1, type := 0, pos := "ref.go:235", after := #[], guard := none }) (v := ?_) rfl (by kernel_rfl) (by kernel_rfl) (by kernel_rfl) (fun _ _ _ h => h) (Or.inl ⟨by rfl, ?_⟩) (by assumption) ?_
            rotate_left
            · (intro wq hSw; (try dsimp only at hSw); have TT := T8.out.under hSw (Nat.lt_succ_self _); have a0 := TT.a.c0; have a1 := TT.a.c1; have a2 := TT.a.c2; have a3 := TT.a.c3; clear TT; clear hSw; go_simp; first | done | with_reducible rfl)
            try simp only [Act.put, List.setIfInBounds_toArray, List.set_cons_zero, List.set_cons_succ]
            refine wpAnyH_take (i := 2) (oi := { dst := some 63, op := Op.load 60 (Operand.tmp 62), type := 60, pos := "ref.go:235", after := #[{ on := 1, ground := Ground.data }], guard := none }) (v := ?_) rfl (by kernel_rfl) (by kernel_rfl) (by kernel_rfl) (fun _ _ _ h => h) (Or.inl ⟨by rfl, ?_⟩) (by assumption) ?_
            rotate_left
            · (intro wq hSw; (try dsimp only at hSw); have TT := T8.out.under hSw (Nat.lt_succ_self _); have a0 := TT.a.c0; have a1 := TT.a.c1; have a2 := TT.a.c2; have a3 := TT.a.c3; clear TT; clear hSw; go_simp; first | done | with_reducible rfl)
            try simp only [Act.put, List.setIfInBounds_toArray, List.set_cons_zero, List.set_cons_succ]
            refine wpAnyH_take (i := 3) (oi := { dst := some 64, op := Op.move (Operand.tmp 11), type := 40, pos := "ref.go:235", after := #[], guard := none }) (v := ?_) rfl (by kernel_rfl) (by kernel_rfl) (by kernel_rfl) (fun _ _ _ h => h) (Or.inl ⟨by rfl, ?_⟩) (by assumption) ?_
            rotate_left
            · (intro wq hSw; (try dsimp only at hSw); have TT := T8.out.under hSw (Nat.lt_succ_self _); have a0 := TT.a.c0; have a1 := TT.a.c1; have a2 := TT.a.c2; have a3 := TT.a.c3; clear TT; clear hSw; go_simp; first | done | with_reducible rfl)
            try simp only [Act.put, List.setIfInBounds_toArray, List.set_cons_zero, List.set_cons_succ]
            refine wpAnyH_take (i := 4) (oi := { dst := some 65, op := Op.fieldAddr 62 (Operand.tmp 2) 0, type := 0, pos := "ref.go:235", after := #[], guard := none }) (v := ?_) rfl (by kernel_rfl) (by kernel_rfl) (by kernel_rfl) (fun _ _ _ h => h) (Or.inl ⟨by rfl, ?_⟩) (by assumption) ?_
            rotate_left
            · (intro wq hSw; (try dsimp only at hSw); have TT := T8.out.under hSw (Nat.lt_succ_self _); have a0 := TT.a.c0; have a1 := TT.a.c1; have a2 := TT.a.c2; have a3 := TT.a.c3; clear TT; clear hSw; go_simp; first | done | with_reducible rfl)
            try simp only [Act.put, List.setIfInBounds_toArray, List.set_cons_zero, List.set_cons_succ]
            refine wpAnyH_take (i := 5) (oi := { dst := some 66, op := Op.load 40 (Operand.tmp 65), type := 40, pos := "ref.go:235", after := #[{ on := 4, ground := Ground.data }], guard := none }) (v := ?_) rfl (by kernel_rfl) (by kernel_rfl) (by kernel_rfl) (fun _ _ _ h => h) (Or.inl ⟨by rfl, ?_⟩) (by assumption) ?_
            rotate_left
            · (intro wq hSw; (try dsimp only at hSw); have TT := T8.out.under hSw (Nat.lt_succ_self _); have a0 := TT.a.c0; have a1 := TT.a.c1; have a2 := TT.a.c2; have a3 := TT.a.c3; clear TT; clear hSw; go_simp; first | done | with_reducible rfl)
            try simp only [Act.put, List.setIfInBounds_toArray, List.set_cons_zero, List.set_cons_succ]
            refine wpAnyH_take (i := 6) (oi := { dst := some 67, op := Op.slice 40 (Operand.tmp 66) (some (Operand.const (Value.int IntKind.i64 1))) none none, type := 40, pos := "ref.go:235", after := #[{ on := 5, ground := Ground.data }], guard := none }) (v := ?_) rfl (by kernel_rfl) (by kernel_rfl) (by kernel_rfl) (fun _ _ _ h => h) (Or.inl ⟨by rfl, ?_⟩) (by assumption) ?_
            rotate_left
            · (intro wq hSw; (try dsimp only at hSw); have TT := T8.out.under hSw (Nat.lt_succ_self _); have a0 := TT.a.c0; have a1 := TT.a.c1; have a2 := TT.a.c2; have a3 := TT.a.c3; clear TT; clear hSw; go_simp; first | done | with_reducible rfl)
            try simp only [Act.put, List.setIfInBounds_toArray, List.set_cons_zero, List.set_cons_succ]
            refine wpAnyH_ready (rs := [7]) (by kernel_rfl) (by simp) ?_
            refine AllReadyH.cons (o := { dst := some 68, op := Op.call { callee := Callee.builtin Builtin.append, args := #[Operand.tmp 64, Operand.tmp 67], argTypes := #[40, 40] }, type := 40, pos := "ref.go:235", after := #[{ on := 3, ground := Ground.data }, { on := 6, ground := Ground.data }], guard := none }) rfl (fun K hK => ?_) AllReadyH.nil
            refine step_append_at rfl (.tmp 64) (.tmp 67) rfl wr.heap.size (.slice (some ⟨wr.heap.size, 0, none⟩) 1 1) 1 (cells3 [x]) (by simp [Act.eval, Act.put]) DR ⟨ba, oz, none⟩ (L.length - 1) (cap - 1) (cells3 (L.drop 1)) (by simp [Act.eval, Act.put]) (by rw [cells3_length, List.length_drop]) (AT.out v0 HB) (cells3_one _) (by have := rk.out; omega) HB.size ?_
            intro av v1 own2 grow2
            have hq : Below wr.heap.size v0 v1 := (Below.refl _ _).grown grow2 HB.size (fun g hg => (DR.lt g hg).1)
            have OW : v1.ownsRow wr.heap.size 23 3 av D.length (cells3 D) := by
              have e : 1 + (L.length - 1) = D.length := by have := DN.out; omega
              have c3 : cells3 D = cells3 [x] ++ cells3 (L.drop 1) := by rw [HD.out, cells3_append]
              rw [e] at own2
              rw [c3]; exact own2
            have HB := HB.trans hq
            have hS : Below (cb + 1) wr v1 := HB.mono (by omega)
            refine hK.out _ _ hS (fun hHeld => ?_)
            clear hK K hHeld
            clear hq grow2 own2 DR
            have hHeld := hS
            clear hS
            try simp only [Act.put, List.setIfInBounds_toArray, List.set_cons_zero, List.set_cons_succ]
            refine wpAnyH_ready (rs := [8]) (by kernel_rfl) (by simp) ?_
            refine AllReadyH.cons (o := { dst := some 69, op := Op.call { callee := Callee.value (Operand.func 155), args := #[Operand.tmp 61, Operand.tmp 63, Operand.tmp 68], argTypes := #[77, 60, 40] }, type := 77, pos := "ref.go:235", after := #[{ on := 0, ground := Ground.data }, { on := 2, ground := Ground.data }, { on := 7, ground := Ground.data }, { on := 7, ground := Ground.chain }], guard := none }) rfl (fun K hK => ?_) AllReadyH.nil
            go_simp
            refine (rprod_add (cb + 1) _ (pcs X L 0 (P.take j)) kk ss hh _ D wr.heap.size _ (OD8.out.keep HB) OW (by omega) (asc_ok (fun y hy => (DA.out y hy).asc)) DC DP (by have := HB.size; omega) (by unfold pcs; have := List.length_take_le j P; have := SM0.out; rw [List.length_map]; omega)).mono ?_
            rintro e v2 ⟨av2, rfl, hq, OD2, KR⟩
            have hq : Below (cb + 1) v1 v2 := ⟨hq.os, hq.tape, hq.output, hq.size, hq.block⟩
            have hS := hHeld.trans hq
            have OP10 := Lib.hid (KR.out _ _ _ _ (owns_below OP8.out HB))
            go_wp2_with fail
            refine hK.out _ _ hS (fun hHeld => ?_)
            clear hK K hHeld
            clear hq KR HB OW
            have hHeld := hS
            clear hS
            try simp only [Act.put, List.setIfInBounds_toArray, List.set_cons_zero, List.set_cons_succ]
            refine wpAnyH_take (i := 9) (oi := { dst := some 9, op := Op.assign (Operand.tmp 69), type := 77, pos := "ref.go:235", after := #[{ on := 8, ground := Ground.data }, { on := 8, ground := Ground.chain }, { on := 0, ground := Ground.phase }, { on := 1, ground := Ground.phase }, { on := 2, ground := Ground.phase }, { on := 3, ground := Ground.phase }, { on := 4, ground := Ground.phase }, { on := 5, ground := Ground.phase }, { on := 6, ground := Ground.phase }, { on := 7, ground := Ground.phase }, { on := 8, ground := Ground.phase }], guard := none }) (v := ?_) rfl (by kernel_rfl) (by kernel_rfl) (by kernel_rfl) (fun _ _ _ h => h) (Or.inl ⟨by rfl, ?_⟩) (by assumption) ?_
            rotate_left
            · (intro wq hSw; (try dsimp only at hSw); have TT := T8.out.under hSw (Nat.lt_succ_self _); have a0 := TT.a.c0; have a1 := TT.a.c1; have a2 := TT.a.c2; have a3 := TT.a.c3; clear TT; clear hSw; go_simp; first | done | with_reducible rfl)
            try simp only [Act.put, List.setIfInBounds_toArray, List.set_cons_zero, List.set_cons_succ]
            refine wpAnyH_done (by kernel_rfl) ?_ _
            have T10 := Lib.hid (T8.out.under hHeld (Nat.lt_succ_self _))
            have OD10 : Hid (OwnD (cb + 1) v2 av2 (pcs X L 0 (P.take (j + 1))) kk ss hh) := Lib.hid (by
              have h := OD2.out
              have e : P.take (j + 1) = P.take j ++ [x] := by rw [List.take_add_one, HXX.out]; rfl
              rw [HD.out] at h
              rw [e]
              unfold pcs at h ⊢
              rw [List.map_append, List.map_singleton]
              exact h)
            clear hHeld OD2
            go_wp2_with fail
            go_roundg (P.length - j)
            case measure => exact KG2.out
            case rel => exact ⟨j + 1, by go_num, ⟨by omega, by omega⟩, T10, OD10, OP10⟩
          · obtain e : j = P.length := by omega
            have OD9 : Hid (OwnD (cb + 1) wr u9 (pcs X L 0 P) kk ss hh) := Lib.hid (by
              have h := OD8.out
              rw [e, List.take_length] at h
              exact h)
            have hj' : ¬ (j : Int) < P.length := by omega
            have x0 := T8.out.a.c0
            clear e
            have V9 : ∃ a n c, u9 = .slice a n c := by
              obtain ⟨us, _, r, _⟩ := OD9.out
              obtain ⟨a, c, e⟩ := owns_slice r
              exact ⟨a, _, c, e⟩
            obtain ⟨qa, qn, qc, rfl⟩ := V9
            by_cases n1 : L.length = 1
            · have e1 : ((L.length : Int) == 1) = true := by simp; omega
              have OE := OD9.out.base (b' := w.heap.size) (by have := T8.out.cbl; omega)
              have N1 := Lib.hid n1
              clear n1
              go_wp2
              refine bodyPost_ret (v := .tuple #[.slice qa qn qc, .int .i64 0]) (by simp [results, Try.results85, go_sem, *]) rfl ⟨_, _, rfl, T8.out.below, Lib.hid (Or.inr ⟨C.out, X, pcs X L 0 P, HX.out, Or.inr (Or.inr ⟨PC.out, PX.out, [P], fun i Q hQ => ?_, Or.inl ⟨N1.out.symm, fun Q hQ => ?_, rfl, ?_⟩⟩), OE⟩)⟩
              · match i, hQ with
                | 0, hQ => simp at hQ; subst hQ; exact SQ0.out
              · simp at hQ; subst hQ; exact SM0.out
              · simp [allP, List.getD]
            · have e1 : ((L.length : Int) == 1) = false := by simp; omega
              have n2 : L.length = 2 := by have := rk.out; omega
              have N2 := Lib.hid n2
              have pl2 : 1 < L.length := by omega
              have pm2 : 1 < M.length := by have := ln.out; omega
              have pl2i : 1 < (L.length : Int) := by omega
              have pm2i : 1 < (M.length : Int) := by omega
              clear n1 n2
              go_upto_region 17 with fail
              clear x0 e1
              obtain ⟨A1, hA⟩ : ∃ A, L[1]? = some A := ⟨L[1]'(by omega), List.getElem?_eq_getElem _⟩
              obtain ⟨B1, hB⟩ : ∃ B, M[1]? = some B := ⟨M[1]'(by omega), List.getElem?_eq_getElem _⟩
              have pa := CA.out 1 A1 hA
              have pb := CB.out 1 B1 hB
              simp only [Nat.one_mul] at pa pb
              have PA1 := Lib.hid pa
              have PB1 := Lib.hid pb
              have OA1 := Lib.hid (UA.out A1 (List.mem_of_getElem? hA)).1
              have OB1 := Lib.hid (UB.out B1 (List.mem_of_getElem? hB)).1
              have FA1 := Lib.hid hA
              have FB1 := Lib.hid hB
              clear hA hB pa pb
              refine wp_region_held_drew (S := (fun w' => SbSt w (.slice (some ⟨ba, oa, none⟩) L.length cap) kk ss hh (.slice (some ⟨bb, ob, none⟩) M.length cap') k' s' h' cb (.slice (some ⟨cg, 0, none⟩) X.length rc) X w')) (by kernel_rfl) (T8.out.keep (to_drew (Below.refl _ _))) (fun hHeld => ?_)
              have ODd := OD9.out.keep (to_drew (Below.refl _ _))
              obtain ⟨v0, hv0⟩ : ∃ v0, v0 = wr.drew := ⟨_, rfl⟩
              rw [← hv0] at hHeld ODd ⊢
              clear hv0
              refine wpAnyH_take (i := 0) (oi := { dst := some 76, op := Op.fieldAddr 62 (Operand.tmp 2) 0, type := 0, pos := "ref.go:240", after := #[], guard := none }) (v := ?_) rfl (by kernel_rfl) (by kernel_rfl) (by kernel_rfl) (fun _ _ _ h => h) (Or.inl ⟨by rfl, ?_⟩) (by assumption) ?_
              rotate_left
              · (intro wq hSw; (try dsimp only at hSw); have a0 := hSw.a.c0; have b0 := hSw.b.c0; have p0 := (hSw.below.cell (p := ⟨ba, oa + 3, none⟩) hba).trans PA1.out.1; have q0 := (hSw.below.cell (p := ⟨bb, ob + 3, none⟩) hbb).trans PB1.out.1; have p1 := (hSw.below.cell (p := ⟨ba, oa + 3 + 1, none⟩) hba).trans PA1.out.2.1; have q1 := (hSw.below.cell (p := ⟨bb, ob + 3 + 1, none⟩) hbb).trans PB1.out.2.1; have p2 := (hSw.below.cell (p := ⟨ba, oa + 3 + 2, none⟩) hba).trans PA1.out.2.2; have q2 := (hSw.below.cell (p := ⟨bb, ob + 3 + 2, none⟩) hbb).trans PB1.out.2.2; clear hSw; go_simp; first | done | with_reducible rfl)
              try simp only [Act.put, List.setIfInBounds_toArray, List.set_cons_zero, List.set_cons_succ]
              refine wpAnyH_take (i := 1) (oi := { dst := some 77, op := Op.load 40 (Operand.tmp 76), type := 40, pos := "ref.go:240", after := #[{ on := 0, ground := Ground.data }], guard := none }) (v := ?_) rfl (by kernel_rfl) (by kernel_rfl) (by kernel_rfl) (fun _ _ _ h => h) (Or.inl ⟨by rfl, ?_⟩) (by assumption) ?_
              rotate_left
              · (intro wq hSw; (try dsimp only at hSw); have a0 := hSw.a.c0; have b0 := hSw.b.c0; have p0 := (hSw.below.cell (p := ⟨ba, oa + 3, none⟩) hba).trans PA1.out.1; have q0 := (hSw.below.cell (p := ⟨bb, ob + 3, none⟩) hbb).trans PB1.out.1; have p1 := (hSw.below.cell (p := ⟨ba, oa + 3 + 1, none⟩) hba).trans PA1.out.2.1; have q1 := (hSw.below.cell (p := ⟨bb, ob + 3 + 1, none⟩) hbb).trans PB1.out.2.1; have p2 := (hSw.below.cell (p := ⟨ba, oa + 3 + 2, none⟩) hba).trans PA1.out.2.2; have q2 := (hSw.below.cell (p := ⟨bb, ob + 3 + 2, none⟩) hbb).trans PB1.out.2.2; clear hSw; go_simp; first | done | with_reducible rfl)
              try simp only [Act.put, List.setIfInBounds_toArray, List.set_cons_zero, List.set_cons_succ]
              refine wpAnyH_take (i := 2) (oi := { dst := some 78, op := Op.indexAddr 40 (Operand.tmp 77) (Operand.const (Value.int IntKind.i64 1)), type := 0, pos := "ref.go:240", after := #[{ on := 1, ground := Ground.data }], guard := none }) (v := ?_) rfl (by kernel_rfl) (by kernel_rfl) (by kernel_rfl) (fun _ _ _ h => h) (Or.inl ⟨by rfl, ?_⟩) (by assumption) ?_
              rotate_left
              · (intro wq hSw; (try dsimp only at hSw); have a0 := hSw.a.c0; have b0 := hSw.b.c0; have p0 := (hSw.below.cell (p := ⟨ba, oa + 3, none⟩) hba).trans PA1.out.1; have q0 := (hSw.below.cell (p := ⟨bb, ob + 3, none⟩) hbb).trans PB1.out.1; have p1 := (hSw.below.cell (p := ⟨ba, oa + 3 + 1, none⟩) hba).trans PA1.out.2.1; have q1 := (hSw.below.cell (p := ⟨bb, ob + 3 + 1, none⟩) hbb).trans PB1.out.2.1; have p2 := (hSw.below.cell (p := ⟨ba, oa + 3 + 2, none⟩) hba).trans PA1.out.2.2; have q2 := (hSw.below.cell (p := ⟨bb, ob + 3 + 2, none⟩) hbb).trans PB1.out.2.2; clear hSw; go_simp; first | done | with_reducible rfl)
              try simp only [Act.put, List.setIfInBounds_toArray, List.set_cons_zero, List.set_cons_succ]
              refine wpAnyH_take (i := 3) (oi := { dst := some 79, op := Op.load 23 (Operand.tmp 78), type := 23, pos := "ref.go:240", after := #[{ on := 2, ground := Ground.data }], guard := none }) (v := ?_) rfl (by kernel_rfl) (by kernel_rfl) (by kernel_rfl) (fun _ _ _ h => h) (Or.inl ⟨by rfl, ?_⟩) (by assumption) ?_
              rotate_left
              · (intro wq hSw; (try dsimp only at hSw); have a0 := hSw.a.c0; have b0 := hSw.b.c0; have p0 := (hSw.below.cell (p := ⟨ba, oa + 3, none⟩) hba).trans PA1.out.1; have q0 := (hSw.below.cell (p := ⟨bb, ob + 3, none⟩) hbb).trans PB1.out.1; have p1 := (hSw.below.cell (p := ⟨ba, oa + 3 + 1, none⟩) hba).trans PA1.out.2.1; have q1 := (hSw.below.cell (p := ⟨bb, ob + 3 + 1, none⟩) hbb).trans PB1.out.2.1; have p2 := (hSw.below.cell (p := ⟨ba, oa + 3 + 2, none⟩) hba).trans PA1.out.2.2; have q2 := (hSw.below.cell (p := ⟨bb, ob + 3 + 2, none⟩) hbb).trans PB1.out.2.2; clear hSw; go_simp; first | done | with_reducible rfl)
              try simp only [Act.put, List.setIfInBounds_toArray, List.set_cons_zero, List.set_cons_succ]
              refine wpAnyH_take (i := 4) (oi := { dst := some 80, op := Op.fieldAddr 62 (Operand.tmp 3) 0, type := 0, pos := "ref.go:240", after := #[], guard := none }) (v := ?_) rfl (by kernel_rfl) (by kernel_rfl) (by kernel_rfl) (fun _ _ _ h => h) (Or.inl ⟨by rfl, ?_⟩) (by assumption) ?_
              rotate_left
              · (intro wq hSw; (try dsimp only at hSw); have a0 := hSw.a.c0; have b0 := hSw.b.c0; have p0 := (hSw.below.cell (p := ⟨ba, oa + 3, none⟩) hba).trans PA1.out.1; have q0 := (hSw.below.cell (p := ⟨bb, ob + 3, none⟩) hbb).trans PB1.out.1; have p1 := (hSw.below.cell (p := ⟨ba, oa + 3 + 1, none⟩) hba).trans PA1.out.2.1; have q1 := (hSw.below.cell (p := ⟨bb, ob + 3 + 1, none⟩) hbb).trans PB1.out.2.1; have p2 := (hSw.below.cell (p := ⟨ba, oa + 3 + 2, none⟩) hba).trans PA1.out.2.2; have q2 := (hSw.below.cell (p := ⟨bb, ob + 3 + 2, none⟩) hbb).trans PB1.out.2.2; clear hSw; go_simp; first | done | with_reducible rfl)
              try simp only [Act.put, List.setIfInBounds_toArray, List.set_cons_zero, List.set_cons_succ]
              refine wpAnyH_take (i := 5) (oi := { dst := some 81, op := Op.load 40 (Operand.tmp 80), type := 40, pos := "ref.go:240", after := #[{ on := 4, ground := Ground.data }], guard := none }) (v := ?_) rfl (by kernel_rfl) (by kernel_rfl) (by kernel_rfl) (fun _ _ _ h => h) (Or.inl ⟨by rfl, ?_⟩) (by assumption) ?_
              rotate_left
              · (intro wq hSw; (try dsimp only at hSw); have a0 := hSw.a.c0; have b0 := hSw.b.c0; have p0 := (hSw.below.cell (p := ⟨ba, oa + 3, none⟩) hba).trans PA1.out.1; have q0 := (hSw.below.cell (p := ⟨bb, ob + 3, none⟩) hbb).trans PB1.out.1; have p1 := (hSw.below.cell (p := ⟨ba, oa + 3 + 1, none⟩) hba).trans PA1.out.2.1; have q1 := (hSw.below.cell (p := ⟨bb, ob + 3 + 1, none⟩) hbb).trans PB1.out.2.1; have p2 := (hSw.below.cell (p := ⟨ba, oa + 3 + 2, none⟩) hba).trans PA1.out.2.2; have q2 := (hSw.below.cell (p := ⟨bb, ob + 3 + 2, none⟩) hbb).trans PB1.out.2.2; clear hSw; go_simp; first | done | with_reducible rfl)
              try simp only [Act.put, List.setIfInBounds_toArray, List.set_cons_zero, List.set_cons_succ]
              refine wpAnyH_take (i := 6) (oi := { dst := some 82, op := Op.indexAddr 40 (Operand.tmp 81) (Operand.const (Value.int IntKind.i64 1)), type := 0, pos := "ref.go:240", after := #[{ on := 5, ground := Ground.data }], guard := none }) (v := ?_) rfl (by kernel_rfl) (by kernel_rfl) (by kernel_rfl) (fun _ _ _ h => h) (Or.inl ⟨by rfl, ?_⟩) (by assumption) ?_
              rotate_left
              · (intro wq hSw; (try dsimp only at hSw); have a0 := hSw.a.c0; have b0 := hSw.b.c0; have p0 := (hSw.below.cell (p := ⟨ba, oa + 3, none⟩) hba).trans PA1.out.1; have q0 := (hSw.below.cell (p := ⟨bb, ob + 3, none⟩) hbb).trans PB1.out.1; have p1 := (hSw.below.cell (p := ⟨ba, oa + 3 + 1, none⟩) hba).trans PA1.out.2.1; have q1 := (hSw.below.cell (p := ⟨bb, ob + 3 + 1, none⟩) hbb).trans PB1.out.2.1; have p2 := (hSw.below.cell (p := ⟨ba, oa + 3 + 2, none⟩) hba).trans PA1.out.2.2; have q2 := (hSw.below.cell (p := ⟨bb, ob + 3 + 2, none⟩) hbb).trans PB1.out.2.2; clear hSw; go_simp; first | done | with_reducible rfl)
              try simp only [Act.put, List.setIfInBounds_toArray, List.set_cons_zero, List.set_cons_succ]
              refine wpAnyH_take (i := 7) (oi := { dst := some 83, op := Op.load 23 (Operand.tmp 82), type := 23, pos := "ref.go:240", after := #[{ on := 6, ground := Ground.data }], guard := none }) (v := ?_) rfl (by kernel_rfl) (by kernel_rfl) (by kernel_rfl) (fun _ _ _ h => h) (Or.inl ⟨by rfl, ?_⟩) (by assumption) ?_
              rotate_left
              · (intro wq hSw; (try dsimp only at hSw); have a0 := hSw.a.c0; have b0 := hSw.b.c0; have p0 := (hSw.below.cell (p := ⟨ba, oa + 3, none⟩) hba).trans PA1.out.1; have q0 := (hSw.below.cell (p := ⟨bb, ob + 3, none⟩) hbb).trans PB1.out.1; have p1 := (hSw.below.cell (p := ⟨ba, oa + 3 + 1, none⟩) hba).trans PA1.out.2.1; have q1 := (hSw.below.cell (p := ⟨bb, ob + 3 + 1, none⟩) hbb).trans PB1.out.2.1; have p2 := (hSw.below.cell (p := ⟨ba, oa + 3 + 2, none⟩) hba).trans PA1.out.2.2; have q2 := (hSw.below.cell (p := ⟨bb, ob + 3 + 2, none⟩) hbb).trans PB1.out.2.2; clear hSw; go_simp; first | done | with_reducible rfl)
              try simp only [Act.put, List.setIfInBounds_toArray, List.set_cons_zero, List.set_cons_succ]
              refine wpAnyH_ready (rs := [8]) (by kernel_rfl) (by simp) ?_
              refine AllReadyH.cons (o := { dst := some 84, op := Op.call { callee := Callee.value (Operand.func 46), args := #[Operand.tmp 79, Operand.tmp 83], argTypes := #[23, 23] }, type := 41, pos := "ref.go:240", after := #[{ on := 3, ground := Ground.data }, { on := 7, ground := Ground.data }], guard := none }) rfl (fun K hK => ?_) AllReadyH.nil
              go_simp
              refine (refSubtract_ok _ _ _ _ _ _ _ OA1 OB1).mono ?_
              rintro e w16 ⟨l0, h0, s0, hF, qv, pe, rfl, hq, hP⟩
              have hq : Below v0.heap.size v0 w16 := ⟨hq.os, hq.tape, hq.output, hq.size, hq.block⟩
              have zq := hHeld.c.size
              have HP1 := Lib.hid hP
              have SQ1 : Hid (SubsP L M 1 _) := Lib.hid ⟨A1, B1, l0, h0, s0, FA1.out, FB1.out, hF, rfl⟩
              clear hP hF
              generalize subAll A1.1 A1.2.1 A1.2.2 l0 h0 s0 = Q1 at *
              have hS := hHeld.keep hq
              have OD16 := Lib.hid (ODd.keep hq)
              go_wp2_with fail
              refine hK.out _ _ hS (fun hHeld => ?_)
              clear hK K hHeld
              clear hq ODd
              have hHeld := hS
              clear hS
              try simp only [Act.put, List.setIfInBounds_toArray, List.set_cons_zero, List.set_cons_succ]
              refine wpAnyH_take (i := 9) (oi := { dst := some 75, op := Op.move (Operand.tmp 84), type := 41, pos := "ref.go:240", after := #[{ on := 8, ground := Ground.data }], guard := none }) (v := ?_) rfl (by kernel_rfl) (by kernel_rfl) (by kernel_rfl) (fun _ _ _ h => h) (Or.inl ⟨by rfl, ?_⟩) (by assumption) ?_
              rotate_left
              · (intro wq hSw; (try dsimp only at hSw); have a0 := hSw.a.c0; have b0 := hSw.b.c0; have p0 := (hSw.below.cell (p := ⟨ba, oa + 3, none⟩) hba).trans PA1.out.1; have q0 := (hSw.below.cell (p := ⟨bb, ob + 3, none⟩) hbb).trans PB1.out.1; have p1 := (hSw.below.cell (p := ⟨ba, oa + 3 + 1, none⟩) hba).trans PA1.out.2.1; have q1 := (hSw.below.cell (p := ⟨bb, ob + 3 + 1, none⟩) hbb).trans PB1.out.2.1; have p2 := (hSw.below.cell (p := ⟨ba, oa + 3 + 2, none⟩) hba).trans PA1.out.2.2; have q2 := (hSw.below.cell (p := ⟨bb, ob + 3 + 2, none⟩) hbb).trans PB1.out.2.2; clear hSw; go_simp; first | done | with_reducible rfl)
              try simp only [Act.put, List.setIfInBounds_toArray, List.set_cons_zero, List.set_cons_succ]
              refine wpAnyH_take (i := 10) (oi := { dst := some 85, op := Op.extract (Operand.tmp 75) 0, type := 40, pos := "ref.go:240", after := #[{ on := 9, ground := Ground.data }], guard := none }) (v := ?_) rfl (by kernel_rfl) (by kernel_rfl) (by kernel_rfl) (fun _ _ _ h => h) (Or.inl ⟨by rfl, ?_⟩) (by assumption) ?_
              rotate_left
              · (intro wq hSw; (try dsimp only at hSw); have a0 := hSw.a.c0; have b0 := hSw.b.c0; have p0 := (hSw.below.cell (p := ⟨ba, oa + 3, none⟩) hba).trans PA1.out.1; have q0 := (hSw.below.cell (p := ⟨bb, ob + 3, none⟩) hbb).trans PB1.out.1; have p1 := (hSw.below.cell (p := ⟨ba, oa + 3 + 1, none⟩) hba).trans PA1.out.2.1; have q1 := (hSw.below.cell (p := ⟨bb, ob + 3 + 1, none⟩) hbb).trans PB1.out.2.1; have p2 := (hSw.below.cell (p := ⟨ba, oa + 3 + 2, none⟩) hba).trans PA1.out.2.2; have q2 := (hSw.below.cell (p := ⟨bb, ob + 3 + 2, none⟩) hbb).trans PB1.out.2.2; clear hSw; go_simp; first | done | with_reducible rfl)
              try simp only [Act.put, List.setIfInBounds_toArray, List.set_cons_zero, List.set_cons_succ]
              refine wpAnyH_take (i := 11) (oi := { dst := some 86, op := Op.extract (Operand.tmp 75) 1, type := 24, pos := "ref.go:240", after := #[{ on := 9, ground := Ground.data }, { on := 12, ground := Ground.gcOnly Departure.lateStores }], guard := none }) (v := ?_) rfl (by kernel_rfl) (by kernel_rfl) (by kernel_rfl) (fun _ _ _ h => h) (Or.inl ⟨by rfl, ?_⟩) (by assumption) ?_
              rotate_left
              · (intro wq hSw; (try dsimp only at hSw); have a0 := hSw.a.c0; have b0 := hSw.b.c0; have p0 := (hSw.below.cell (p := ⟨ba, oa + 3, none⟩) hba).trans PA1.out.1; have q0 := (hSw.below.cell (p := ⟨bb, ob + 3, none⟩) hbb).trans PB1.out.1; have p1 := (hSw.below.cell (p := ⟨ba, oa + 3 + 1, none⟩) hba).trans PA1.out.2.1; have q1 := (hSw.below.cell (p := ⟨bb, ob + 3 + 1, none⟩) hbb).trans PB1.out.2.1; have p2 := (hSw.below.cell (p := ⟨ba, oa + 3 + 2, none⟩) hba).trans PA1.out.2.2; have q2 := (hSw.below.cell (p := ⟨bb, ob + 3 + 2, none⟩) hbb).trans PB1.out.2.2; clear hSw; go_simp; first | done | with_reducible rfl)
              try simp only [Act.put, List.setIfInBounds_toArray, List.set_cons_zero, List.set_cons_succ]
              refine wpAnyH_take (i := 12) (oi := { dst := some 12, op := Op.assign (Operand.tmp 85), type := 40, pos := "ref.go:240", after := #[{ on := 10, ground := Ground.data }, { on := 8, ground := Ground.chain }, { on := 0, ground := Ground.phase }, { on := 1, ground := Ground.phase }, { on := 2, ground := Ground.phase }, { on := 3, ground := Ground.phase }, { on := 4, ground := Ground.phase }, { on := 5, ground := Ground.phase }, { on := 6, ground := Ground.phase }, { on := 7, ground := Ground.phase }, { on := 8, ground := Ground.phase }, { on := 9, ground := Ground.phase }, { on := 10, ground := Ground.phase }, { on := 11, ground := Ground.textOnly Departure.lateStores }], guard := none }) (v := ?_) rfl (by kernel_rfl) (by kernel_rfl) (by kernel_rfl) (fun _ _ _ h => h) (Or.inl ⟨by rfl, ?_⟩) (by assumption) ?_
              rotate_left
              · (intro wq hSw; (try dsimp only at hSw); have a0 := hSw.a.c0; have b0 := hSw.b.c0; have p0 := (hSw.below.cell (p := ⟨ba, oa + 3, none⟩) hba).trans PA1.out.1; have q0 := (hSw.below.cell (p := ⟨bb, ob + 3, none⟩) hbb).trans PB1.out.1; have p1 := (hSw.below.cell (p := ⟨ba, oa + 3 + 1, none⟩) hba).trans PA1.out.2.1; have q1 := (hSw.below.cell (p := ⟨bb, ob + 3 + 1, none⟩) hbb).trans PB1.out.2.1; have p2 := (hSw.below.cell (p := ⟨ba, oa + 3 + 2, none⟩) hba).trans PA1.out.2.2; have q2 := (hSw.below.cell (p := ⟨bb, ob + 3 + 2, none⟩) hbb).trans PB1.out.2.2; clear hSw; go_simp; first | done | with_reducible rfl)
              try simp only [Act.put, List.setIfInBounds_toArray, List.set_cons_zero, List.set_cons_succ]
              refine wpAnyH_take (i := 13) (oi := { dst := some 7, op := Op.assign (Operand.tmp 86), type := 24, pos := "ref.go:240", after := #[{ on := 11, ground := Ground.data }, { on := 12, ground := Ground.chain }, { on := 0, ground := Ground.phase }, { on := 1, ground := Ground.phase }, { on := 2, ground := Ground.phase }, { on := 3, ground := Ground.phase }, { on := 4, ground := Ground.phase }, { on := 5, ground := Ground.phase }, { on := 6, ground := Ground.phase }, { on := 7, ground := Ground.phase }, { on := 8, ground := Ground.phase }, { on := 9, ground := Ground.phase }, { on := 10, ground := Ground.phase }, { on := 11, ground := Ground.phase }, { on := 12, ground := Ground.phase }], guard := none }) (v := ?_) rfl (by kernel_rfl) (by kernel_rfl) (by kernel_rfl) (fun _ _ _ h => h) (Or.inl ⟨by rfl, ?_⟩) (by assumption) ?_
              rotate_left
              · (intro wq hSw; (try dsimp only at hSw); have a0 := hSw.a.c0; have b0 := hSw.b.c0; have p0 := (hSw.below.cell (p := ⟨ba, oa + 3, none⟩) hba).trans PA1.out.1; have q0 := (hSw.below.cell (p := ⟨bb, ob + 3, none⟩) hbb).trans PB1.out.1; have p1 := (hSw.below.cell (p := ⟨ba, oa + 3 + 1, none⟩) hba).trans PA1.out.2.1; have q1 := (hSw.below.cell (p := ⟨bb, ob + 3 + 1, none⟩) hbb).trans PB1.out.2.1; have p2 := (hSw.below.cell (p := ⟨ba, oa + 3 + 2, none⟩) hba).trans PA1.out.2.2; have q2 := (hSw.below.cell (p := ⟨bb, ob + 3 + 2, none⟩) hbb).trans PB1.out.2.2; clear hSw; go_simp; first | done | with_reducible rfl)
              try simp only [Act.put, List.setIfInBounds_toArray, List.set_cons_zero, List.set_cons_succ]
              refine wpAnyH_done (by kernel_rfl) ?_ _
              have T16 := Lib.hid hHeld
              clear hHeld
              rcases HP1.out with ⟨big, rfl, rfl⟩ | ⟨small, rfl, own⟩
              · have BIG := Lib.hid big
                clear big HP1
                go_wp2
                refine bodyPost_ret (v := .tuple #[.slice none 0 0, .int .i64 7]) (by simp [results, Try.results85, go_sem, *]) rfl ⟨_, _, rfl, T16.out.below, Lib.hid (Or.inr ⟨C.out, X, [], HX.out, Or.inr (Or.inr ⟨PC.out, PX.out, [P], fun i Q hQ => ?_, Or.inr ⟨Q1, pl2, fun Q hQ => ?_, SQ1.out, BIG.out, rfl, rfl⟩⟩), OwnD.nil _ _ _ _ _⟩)⟩
                · match i, hQ with
                  | 0, hQ => simp at hQ; subst hQ; exact SQ0.out
                · simp at hQ; subst hQ; exact SM0.out
              · have SM1 := Lib.hid small
                have zc := T8.out.c.size
                have OP16 : Hid (w16.ownsRow (cb + 1) 23 3 qv Q1.length (cells3 Q1)) := Lib.hid (owns_base own (by omega))
                clear own HP1 small zc zq
                obtain ⟨ta, tc, rfl⟩ := owns_slice OP16.out
                go_wp2_with fail
                go_loopg [9, 13] (Q1.length + 1) (fun gh v9 v13 wr => ∃ j : Nat, v13 = .int .i64 j ∧ (j ≤ Q1.length ∧ Q1.length - j < gh) ∧ Hid (SbSt w (.slice (some ⟨ba, oa, none⟩) L.length cap) kk ss hh (.slice (some ⟨bb, ob, none⟩) M.length cap') k' s' h' cb (.slice (some ⟨cg, 0, none⟩) X.length rc) X wr) ∧ Hid (OwnD (cb + 1) wr v9 (pcs X L 0 P ++ pcs X L 1 (Q1.take j)) kk ss hh) ∧ Hid (wr.ownsRow (cb + 1) 23 3 (.slice ta Q1.length tc) Q1.length (cells3 Q1)))
                case atStart => exact ⟨0, rfl, ⟨by omega, by omega⟩, T16, Lib.hid (by simpa [pcs] using OD16.out), OP16⟩
                case round =>
                  obtain ⟨i, rfl, ⟨i0', ig⟩, T18, OD18, OP18⟩ := hrel
                  have KG3 := Lib.hid ig
                  clear ig
                  by_cases hi2 : i < Q1.length
                  · obtain ⟨x, hx⟩ : ∃ x, Q1[i]? = some x := ⟨Q1[i], List.getElem?_eq_getElem hi2⟩
                    obtain ⟨tg, rfl⟩ : ∃ tg, ta = some ⟨tg, 0, none⟩ := owns_addr OP18.out (by omega)
                    have HXX := Lib.hid hx
                    have XO : Hid (Pc x) := Lib.hid (piece_ok UA.out UB.out SQ1.out x (List.mem_of_getElem? hx))
                    have iw : IntKind.i64.wrap ((i : Int) + 1) = (i : Int) + 1 := IntWalk.i64_in _ (by have := SM1.out; omega)
                    have im : (Q1.length : Int) ≤ 1000 := by have := SM1.out; omega
                    obtain ⟨c0, hc0⟩ : ∃ c0, X[0]? = some c0 := ⟨X[0]'(by have := lx.out; omega), List.getElem?_eq_getElem _⟩
                    have HC0 := Lib.hid hc0
                    have CX0 := Lib.hid (List.mem_of_getElem? hc0)
                    have px1 : 0 < X.length := by have := lx.out; omega
                    clear hx hc0
                    obtain ⟨D, hD⟩ : ∃ D, D = [c0, x] := ⟨_, rfl⟩
                    have HD := Lib.hid hD
                    clear hD
                    have DN : Hid (D.length = 2) := Lib.hid (by rw [HD.out]; rfl)
                    have DA : Hid (∀ y ∈ D, Pc y) := Lib.hid (fun y hy => by
                      rw [HD.out] at hy
                      simp at hy
                      rcases hy with rfl | rfl
                      · exact Pc.mk (UX.out y CX0.out) (SX.out y CX0.out)
                      · exact XO.out)
                    have DC : Hid (dchk D kk ss hh = 0) := Lib.hid (dchk_of (Or.inr DN.out) (fun y hy => (DA.out y hy).asc) PL.out)
                    have DP : Hid (¬ prodL D = 0) := Lib.hid (prod_ne (Or.inr DN.out) (fun y hy => (DA.out y hy).num))
                    have zc := T18.out.c.size
                    go_upto_region 23 with fail
                    refine wp_region_held_drew (S := (fun w' => Below (cb + 1) wr w' ∧ w'.ownsRow (cb + 1) 23 3 (.slice (some ⟨tg, 0, none⟩) Q1.length tc) Q1.length (cells3 Q1))) (by kernel_rfl) (And.intro (to_drew (Below.refl _ _)) (owns_below OP18.out (to_drew (Below.refl _ _)))) (fun hHeld => ?_)
                    have HB := to_drew (Below.refl wr.heap.size wr)
                    obtain ⟨v0, hv0⟩ : ∃ v0, v0 = wr.drew := ⟨_, rfl⟩
                    rw [← hv0] at hHeld HB ⊢
                    clear hv0
                    refine wpAnyH_take (i := 0) (oi := { dst := some 96, op := Op.move (Operand.tmp 9), type := 77, pos := "ref.go:245", after := #[], guard := none }) (v := ?_) rfl (by kernel_rfl) (by kernel_rfl) (by kernel_rfl) (fun _ _ _ h => h) (Or.inl ⟨by rfl, ?_⟩) (by assumption) ?_
                    rotate_left
                    · (intro wq hSw; (try dsimp only at hSw); have TT := T18.out.under hSw.1 (Nat.lt_succ_self _); have a1 := TT.a.c1; have a2 := TT.a.c2; have a3 := TT.a.c3; have d0 := TT.c.c0; have q := owns_at TT.row 0 c0 HC0.out; simp only [Nat.zero_mul, Nat.zero_add] at q; have q0 := q.1; have q1 := q.2.1; have q2 := q.2.2; have r := owns_at hSw.2 i x HXX.out; have r0 := r.1; have r1 := r.2.1; have r2 := r.2.2; clear TT q r; clear hSw; go_simp; first | done | with_reducible rfl)
                    try simp only [Act.put, List.setIfInBounds_toArray, List.set_cons_zero, List.set_cons_succ]
                    refine wpAnyH_take (i := 1) (oi := { dst := some 97, op := Op.fieldAddr 62 (Operand.tmp 2) 1, type := 0, pos := "ref.go:245", after := #[], guard := none }) (v := ?_) rfl (by kernel_rfl) (by kernel_rfl) (by kernel_rfl) (fun _ _ _ h => h) (Or.inl ⟨by rfl, ?_⟩) (by assumption) ?_
                    rotate_left
                    · (intro wq hSw; (try dsimp only at hSw); have TT := T18.out.under hSw.1 (Nat.lt_succ_self _); have a1 := TT.a.c1; have a2 := TT.a.c2; have a3 := TT.a.c3; have d0 := TT.c.c0; have q := owns_at TT.row 0 c0 HC0.out; simp only [Nat.zero_mul, Nat.zero_add] at q; have q0 := q.1; have q1 := q.2.1; have q2 := q.2.2; have r := owns_at hSw.2 i x HXX.out; have r0 := r.1; have r1 := r.2.1; have r2 := r.2.2; clear TT q r; clear hSw; go_simp; first | done | with_reducible rfl)
                    try simp only [Act.put, List.setIfInBounds_toArray, List.set_cons_zero, List.set_cons_succ]
                    refine wpAnyH_take (i := 2) (oi := { dst := some 98, op := Op.load 60 (Operand.tmp 97), type := 60, pos := "ref.go:245", after := #[{ on := 1, ground := Ground.data }], guard := none }) (v := ?_) rfl (by kernel_rfl) (by kernel_rfl) (by kernel_rfl) (fun _ _ _ h => h) (Or.inl ⟨by rfl, ?_⟩) (by assumption) ?_
                    rotate_left
                    · (intro wq hSw; (try dsimp only at hSw); have TT := T18.out.under hSw.1 (Nat.lt_succ_self _); have a1 := TT.a.c1; have a2 := TT.a.c2; have a3 := TT.a.c3; have d0 := TT.c.c0; have q := owns_at TT.row 0 c0 HC0.out; simp only [Nat.zero_mul, Nat.zero_add] at q; have q0 := q.1; have q1 := q.2.1; have q2 := q.2.2; have r := owns_at hSw.2 i x HXX.out; have r0 := r.1; have r1 := r.2.1; have r2 := r.2.2; clear TT q r; clear hSw; go_simp; first | done | with_reducible rfl)
                    try simp only [Act.put, List.setIfInBounds_toArray, List.set_cons_zero, List.set_cons_succ]
                    refine wpAnyH_take (i := 3) (oi := { dst := some 99, op := Op.fieldAddr 62 (Operand.tmp 6) 0, type := 0, pos := "ref.go:245", after := #[], guard := none }) (v := ?_) rfl (by kernel_rfl) (by kernel_rfl) (by kernel_rfl) (fun _ _ _ h => h) (Or.inl ⟨by rfl, ?_⟩) (by assumption) ?_
                    rotate_left
                    · (intro wq hSw; (try dsimp only at hSw); have TT := T18.out.under hSw.1 (Nat.lt_succ_self _); have a1 := TT.a.c1; have a2 := TT.a.c2; have a3 := TT.a.c3; have d0 := TT.c.c0; have q := owns_at TT.row 0 c0 HC0.out; simp only [Nat.zero_mul, Nat.zero_add] at q; have q0 := q.1; have q1 := q.2.1; have q2 := q.2.2; have r := owns_at hSw.2 i x HXX.out; have r0 := r.1; have r1 := r.2.1; have r2 := r.2.2; clear TT q r; clear hSw; go_simp; first | done | with_reducible rfl)
                    try simp only [Act.put, List.setIfInBounds_toArray, List.set_cons_zero, List.set_cons_succ]
                    refine wpAnyH_take (i := 4) (oi := { dst := some 100, op := Op.load 40 (Operand.tmp 99), type := 40, pos := "ref.go:245", after := #[{ on := 3, ground := Ground.data }], guard := none }) (v := ?_) rfl (by kernel_rfl) (by kernel_rfl) (by kernel_rfl) (fun _ _ _ h => h) (Or.inl ⟨by rfl, ?_⟩) (by assumption) ?_
                    rotate_left
                    · (intro wq hSw; (try dsimp only at hSw); have TT := T18.out.under hSw.1 (Nat.lt_succ_self _); have a1 := TT.a.c1; have a2 := TT.a.c2; have a3 := TT.a.c3; have d0 := TT.c.c0; have q := owns_at TT.row 0 c0 HC0.out; simp only [Nat.zero_mul, Nat.zero_add] at q; have q0 := q.1; have q1 := q.2.1; have q2 := q.2.2; have r := owns_at hSw.2 i x HXX.out; have r0 := r.1; have r1 := r.2.1; have r2 := r.2.2; clear TT q r; clear hSw; go_simp; first | done | with_reducible rfl)
                    try simp only [Act.put, List.setIfInBounds_toArray, List.set_cons_zero, List.set_cons_succ]
                    refine wpAnyH_take (i := 5) (oi := { dst := some 101, op := Op.indexAddr 40 (Operand.tmp 100) (Operand.const (Value.int IntKind.i64 0)), type := 0, pos := "ref.go:245", after := #[{ on := 4, ground := Ground.data }], guard := none }) (v := ?_) rfl (by kernel_rfl) (by kernel_rfl) (by kernel_rfl) (fun _ _ _ h => h) (Or.inl ⟨by rfl, ?_⟩) (by assumption) ?_
                    rotate_left
                    · (intro wq hSw; (try dsimp only at hSw); have TT := T18.out.under hSw.1 (Nat.lt_succ_self _); have a1 := TT.a.c1; have a2 := TT.a.c2; have a3 := TT.a.c3; have d0 := TT.c.c0; have q := owns_at TT.row 0 c0 HC0.out; simp only [Nat.zero_mul, Nat.zero_add] at q; have q0 := q.1; have q1 := q.2.1; have q2 := q.2.2; have r := owns_at hSw.2 i x HXX.out; have r0 := r.1; have r1 := r.2.1; have r2 := r.2.2; clear TT q r; clear hSw; go_simp; first | done | with_reducible rfl)
                    try simp only [Act.put, List.setIfInBounds_toArray, List.set_cons_zero, List.set_cons_succ]
                    refine wpAnyH_take (i := 6) (oi := { dst := some 102, op := Op.load 23 (Operand.tmp 101), type := 23, pos := "ref.go:245", after := #[{ on := 5, ground := Ground.data }], guard := none }) (v := ?_) rfl (by kernel_rfl) (by kernel_rfl) (by kernel_rfl) (fun _ _ _ h => h) (Or.inl ⟨by rfl, ?_⟩) (by assumption) ?_
                    rotate_left
                    · (intro wq hSw; (try dsimp only at hSw); have TT := T18.out.under hSw.1 (Nat.lt_succ_self _); have a1 := TT.a.c1; have a2 := TT.a.c2; have a3 := TT.a.c3; have d0 := TT.c.c0; have q := owns_at TT.row 0 c0 HC0.out; simp only [Nat.zero_mul, Nat.zero_add] at q; have q0 := q.1; have q1 := q.2.1; have q2 := q.2.2; have r := owns_at hSw.2 i x HXX.out; have r0 := r.1; have r1 := r.2.1; have r2 := r.2.2; clear TT q r; clear hSw; go_simp; first | done | with_reducible rfl)
                    try simp only [Act.put, List.setIfInBounds_toArray, List.set_cons_zero, List.set_cons_succ]
                    refine wpAnyH_take (i := 7) (oi := { dst := some 103, op := Op.move (Operand.tmp 12), type := 40, pos := "ref.go:245", after := #[], guard := none }) (v := ?_) rfl (by kernel_rfl) (by kernel_rfl) (by kernel_rfl) (fun _ _ _ h => h) (Or.inl ⟨by rfl, ?_⟩) (by assumption) ?_
                    rotate_left
                    · (intro wq hSw; (try dsimp only at hSw); have TT := T18.out.under hSw.1 (Nat.lt_succ_self _); have a1 := TT.a.c1; have a2 := TT.a.c2; have a3 := TT.a.c3; have d0 := TT.c.c0; have q := owns_at TT.row 0 c0 HC0.out; simp only [Nat.zero_mul, Nat.zero_add] at q; have q0 := q.1; have q1 := q.2.1; have q2 := q.2.2; have r := owns_at hSw.2 i x HXX.out; have r0 := r.1; have r1 := r.2.1; have r2 := r.2.2; clear TT q r; clear hSw; go_simp; first | done | with_reducible rfl)
                    try simp only [Act.put, List.setIfInBounds_toArray, List.set_cons_zero, List.set_cons_succ]
                    refine wpAnyH_take (i := 8) (oi := { dst := some 104, op := Op.move (Operand.tmp 13), type := 3, pos := "ref.go:245", after := #[], guard := none }) (v := ?_) rfl (by kernel_rfl) (by kernel_rfl) (by kernel_rfl) (fun _ _ _ h => h) (Or.inl ⟨by rfl, ?_⟩) (by assumption) ?_
                    rotate_left
                    · (intro wq hSw; (try dsimp only at hSw); have TT := T18.out.under hSw.1 (Nat.lt_succ_self _); have a1 := TT.a.c1; have a2 := TT.a.c2; have a3 := TT.a.c3; have d0 := TT.c.c0; have q := owns_at TT.row 0 c0 HC0.out; simp only [Nat.zero_mul, Nat.zero_add] at q; have q0 := q.1; have q1 := q.2.1; have q2 := q.2.2; have r := owns_at hSw.2 i x HXX.out; have r0 := r.1; have r1 := r.2.1; have r2 := r.2.2; clear TT q r; clear hSw; go_simp; first | done | with_reducible rfl)
                    try simp only [Act.put, List.setIfInBounds_toArray, List.set_cons_zero, List.set_cons_succ]
                    refine wpAnyH_take (i := 9) (oi := { dst := some 105, op := Op.indexAddr 40 (Operand.tmp 103) (Operand.tmp 104), type := 0, pos := "ref.go:245", after := #[{ on := 7, ground := Ground.data }, { on := 8, ground := Ground.data }], guard := none }) (v := ?_) rfl (by kernel_rfl) (by kernel_rfl) (by kernel_rfl) (fun _ _ _ h => h) (Or.inl ⟨by rfl, ?_⟩) (by assumption) ?_
                    rotate_left
                    · (intro wq hSw; (try dsimp only at hSw); have TT := T18.out.under hSw.1 (Nat.lt_succ_self _); have a1 := TT.a.c1; have a2 := TT.a.c2; have a3 := TT.a.c3; have d0 := TT.c.c0; have q := owns_at TT.row 0 c0 HC0.out; simp only [Nat.zero_mul, Nat.zero_add] at q; have q0 := q.1; have q1 := q.2.1; have q2 := q.2.2; have r := owns_at hSw.2 i x HXX.out; have r0 := r.1; have r1 := r.2.1; have r2 := r.2.2; clear TT q r; clear hSw; go_simp; first | done | with_reducible rfl)
                    try simp only [Act.put, List.setIfInBounds_toArray, List.set_cons_zero, List.set_cons_succ]
                    refine wpAnyH_take (i := 10) (oi := { dst := some 106, op := Op.load 23 (Operand.tmp 105), type := 23, pos := "ref.go:245", after := #[{ on := 9, ground := Ground.data }], guard := none }) (v := ?_) rfl (by kernel_rfl) (by kernel_rfl) (by kernel_rfl) (fun _ _ _ h => h) (Or.inl ⟨by rfl, ?_⟩) (by assumption) ?_
                    rotate_left
                    · (intro wq hSw; (try dsimp only at hSw); have TT := T18.out.under hSw.1 (Nat.lt_succ_self _); have a1 := TT.a.c1; have a2 := TT.a.c2; have a3 := TT.a.c3; have d0 := TT.c.c0; have q := owns_at TT.row 0 c0 HC0.out; simp only [Nat.zero_mul, Nat.zero_add] at q; have q0 := q.1; have q1 := q.2.1; have q2 := q.2.2; have r := owns_at hSw.2 i x HXX.out; have r0 := r.1; have r1 := r.2.1; have r2 := r.2.2; clear TT q r; clear hSw; go_simp; first | done | with_reducible rfl)
                    try simp only [Act.put, List.setIfInBounds_toArray, List.set_cons_zero, List.set_cons_succ]
                    refine wpAnyH_ready (rs := [11]) (by kernel_rfl) (by simp) ?_
                    refine AllReadyH.cons (o := { dst := some 107, op := Op.buildSlice 40 2 #[(0, Operand.tmp 102), (1, Operand.tmp 106)], type := 40, pos := "ref.go:245", after := #[{ on := 6, ground := Ground.data }, { on := 10, ground := Ground.data }], guard := none }) rfl (fun K hK => ?_) AllReadyH.nil
                    go_simp
                    have nb := below_new v0 (.cells #[.int .i64 c0.1, .int .i64 c0.2.1, .int .i64 c0.2.2, .int .i64 x.1, .int .i64 x.2.1, .int .i64 x.2.2] 23)
                    have DR : (v0.alloc (.cells #[.int .i64 c0.1, .int .i64 c0.2.1, .int .i64 c0.2.2, .int .i64 x.1, .int .i64 x.2.1, .int .i64 x.2.2] 23)).ownsRow wr.heap.size 23 3 (.slice (some ⟨v0.heap.size, 0, none⟩) 2 2) D.length (cells3 D) := by
                      rw [HD.out]; exact World.ownsRow_lit v0 #[.int .i64 c0.1, .int .i64 c0.2.1, .int .i64 c0.2.2, .int .i64 x.1, .int .i64 x.2.1, .int .i64 x.2.2] 2 HB.size (by unfold maxLen; omega) (by simp)
                    have hS := And.intro (hHeld.1.trans (nb.mono (by have := HB.size; omega))) (owns_below hHeld.2 nb)
                    have HB := HB.trans (nb.mono HB.size)
                    refine hK.out _ _ hS (fun hHeld => ?_)
                    clear hK K hHeld
                    clear nb
                    generalize v0.alloc (.cells #[.int .i64 c0.1, .int .i64 c0.2.1, .int .i64 c0.2.2, .int .i64 x.1, .int .i64 x.2.1, .int .i64 x.2.2] 23) = v1 at *
                    have hHeld := hS
                    clear hS
                    try simp only [Act.put, List.setIfInBounds_toArray, List.set_cons_zero, List.set_cons_succ]
                    refine wpAnyH_ready (rs := [12]) (by kernel_rfl) (by simp) ?_
                    refine AllReadyH.cons (o := { dst := some 108, op := Op.call { callee := Callee.value (Operand.func 155), args := #[Operand.tmp 96, Operand.tmp 98, Operand.tmp 107], argTypes := #[77, 60, 40] }, type := 77, pos := "ref.go:245", after := #[{ on := 0, ground := Ground.data }, { on := 2, ground := Ground.data }, { on := 11, ground := Ground.data }], guard := none }) rfl (fun K hK => ?_) AllReadyH.nil
                    go_simp
                    refine (rprod_add (cb + 1) _ (pcs X L 0 P ++ pcs X L 1 (Q1.take i)) kk ss hh _ D wr.heap.size _ (OD18.out.keep HB) DR (by omega) (asc_ok (fun y hy => (DA.out y hy).asc)) DC DP (by have := HB.size; omega) (by unfold pcs; have := List.length_take_le i Q1; have := SM0.out; have := SM1.out; rw [List.length_append, List.length_map, List.length_map]; omega)).mono ?_
                    rintro e v2 ⟨av2, rfl, hq, OD2, KR⟩
                    have hq : Below (cb + 1) v1 v2 := ⟨hq.os, hq.tape, hq.output, hq.size, hq.block⟩
                    have hS := And.intro (hHeld.1.trans hq) (KR.out _ _ _ _ hHeld.2)
                    go_wp2_with fail
                    refine hK.out _ _ hS (fun hHeld => ?_)
                    clear hK K hHeld
                    clear hq KR HB DR
                    have hHeld := hS
                    clear hS
                    try simp only [Act.put, List.setIfInBounds_toArray, List.set_cons_zero, List.set_cons_succ]
                    refine wpAnyH_take (i := 13) (oi := { dst := some 9, op := Op.assign (Operand.tmp 108), type := 77, pos := "ref.go:245", after := #[{ on := 12, ground := Ground.data }, { on := 12, ground := Ground.chain }, { on := 0, ground := Ground.phase }, { on := 1, ground := Ground.phase }, { on := 2, ground := Ground.phase }, { on := 3, ground := Ground.phase }, { on := 4, ground := Ground.phase }, { on := 5, ground := Ground.phase }, { on := 6, ground := Ground.phase }, { on := 7, ground := Ground.phase }, { on := 8, ground := Ground.phase }, { on := 9, ground := Ground.phase }, { on := 10, ground := Ground.phase }, { on := 11, ground := Ground.phase }, { on := 12, ground := Ground.phase }], guard := none }) (v := ?_) rfl (by kernel_rfl) (by kernel_rfl) (by kernel_rfl) (fun _ _ _ h => h) (Or.inl ⟨by rfl, ?_⟩) (by assumption) ?_
                    rotate_left
                    · (intro wq hSw; (try dsimp only at hSw); have TT := T18.out.under hSw.1 (Nat.lt_succ_self _); have a1 := TT.a.c1; have a2 := TT.a.c2; have a3 := TT.a.c3; have d0 := TT.c.c0; have q := owns_at TT.row 0 c0 HC0.out; simp only [Nat.zero_mul, Nat.zero_add] at q; have q0 := q.1; have q1 := q.2.1; have q2 := q.2.2; have r := owns_at hSw.2 i x HXX.out; have r0 := r.1; have r1 := r.2.1; have r2 := r.2.2; clear TT q r; clear hSw; go_simp; first | done | with_reducible rfl)
                    try simp only [Act.put, List.setIfInBounds_toArray, List.set_cons_zero, List.set_cons_succ]
                    refine wpAnyH_done (by kernel_rfl) ?_ _
                    have T20 := Lib.hid (T18.out.under hHeld.1 (Nat.lt_succ_self _))
                    have OP20 := Lib.hid hHeld.2
                    have OD20 : Hid (OwnD (cb + 1) v2 av2 (pcs X L 0 P ++ pcs X L 1 (Q1.take (i + 1))) kk ss hh) := Lib.hid (by
                      have h := OD2.out
                      have e : Q1.take (i + 1) = Q1.take i ++ [x] := by rw [List.take_add_one, HXX.out]; rfl
                      have e1 : X.take 1 = [c0] := by
                        rw [show (1 : Nat) = 0 + 1 from rfl, List.take_add_one, HC0.out]; rfl
                      have e2 : L.drop (1 + 1) = [] := List.drop_eq_nil_of_le (by have := N2.out; omega)
                      rw [HD.out] at h
                      rw [e]
                      unfold pcs at h ⊢
                      rw [List.map_append, List.map_singleton, ← List.append_assoc, e1, e2]
                      rw [e1, e2] at h
                      exact h)
                    clear hHeld OD2
                    go_wp2_with fail
                    go_roundg (Q1.length - i)
                    case measure => exact KG3.out
                    case rel => exact ⟨i + 1, by go_num, ⟨by omega, by omega⟩, T20, OD20, OP20⟩
                  · obtain e : i = Q1.length := by omega
                    have hi' : ¬ (i : Int) < Q1.length := by omega
                    have OD19 : Hid (OwnD (cb + 1) wr u9 (pcs X L 0 P ++ pcs X L 1 Q1) kk ss hh) := Lib.hid (by
                      have h := OD18.out
                      rw [e, List.take_length] at h
                      exact h)
                    have OE := OD19.out.base (b' := w.heap.size) (by have := T18.out.cbl; omega)
                    clear e
                    go_wp2
                    refine bodyPost_ret (v := .tuple #[u9, .int .i64 0]) (by simp [results, Try.results85, go_sem, *]) rfl ⟨_, _, rfl, T18.out.below, Lib.hid (Or.inr ⟨C.out, X, pcs X L 0 P ++ pcs X L 1 Q1, HX.out, Or.inr (Or.inr ⟨PC.out, PX.out, [P, Q1], fun i Q hQ => ?_, Or.inl ⟨N2.out.symm, fun Q hQ => ?_, rfl, ?_⟩⟩), OE⟩)⟩
                    · match i, hQ with
                      | 0, hQ => simp at hQ; subst hQ; exact SQ0.out
                      | 1, hQ => simp at hQ; subst hQ; exact SQ1.out
                    · simp at hQ
                      rcases hQ with rfl | rfl
                      · exact SM0.out
                      · exact SM1.out
                    · simp [allP, List.getD]
  · have c' : (dboth L k s h M k' s' h' != 0) = true := by simp [c]
    have C := Lib.hid c
    obtain ⟨rfl, rfl, rfl, rfl, rfl⟩ : er = dboth L k s h M k' s' h' ∧ rv = .slice none 0 0 ∧ kk = 0 ∧ ss = 0 ∧ hh = 0 := by
      rcases hE.out with ⟨h0, _⟩ | ⟨_, h1, h2, h3, h4, h5⟩
      · exact absurd h0 c
      · exact ⟨h1, h2, h3, h4, h5⟩
    have B1 := Lib.hid R1.1
    clear c hE hb1 R1 S0
    go_wp2
    refine bodyPost_ret (v := .tuple #[.slice none 0 0, .int .i64 (dboth L k s h M k' s' h')]) (by simp [results, Try.results85, go_sem, *]) rfl ⟨_, _, rfl, ?_, Lib.hid (Or.inl ⟨C.out, rfl, rfl⟩)⟩
    exact B1.out.trans ((below_new _ _).mono B1.out.size)
end Go.Proofs.Ytabgphlpdoockaa
