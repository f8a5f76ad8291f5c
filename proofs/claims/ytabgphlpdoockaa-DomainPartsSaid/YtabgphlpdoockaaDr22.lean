/-
  Part 22: LawDr.
-/
import Derived.Test.YtabgphlpdoockaaDr14
import Derived.Test.YtabgphlpdoockaaDr21
import Derived.BigQuiet
import Derived.Deep.CutBlock
import Derived.Deep.DeepCutAuto
import Derived.Deep.DrawnRows
import Derived.Deep.LoopGhost
import Derived.Deep.QuietTactic
import Derived.Deep.RegionHeld3
import Derived.Deep.RegionWith
import Derived.Laws.EntriesVeiled
import Derived.Lib.Hide
import Derived.WalkKit
import Derived.WalkLawsBesides
import Derived.WalkSpells
namespace Go.Proofs.Ytabgphlpdoockaa
open Go.RowKit
theorem up_dchk {D : List R3} {k s h : Int} (hn : D.length = 1 ∨ D.length = 2) (hD : Up D) (hp : plB k s h = true) : dchk D k s h = 0 := by
  unfold dchk
  rw [if_pos (by unfold rankB; simpa using hn)]
  have e : ∀ {D : List R3}, Up D → dimsE D = 0 := by
    intro D
    induction D with
    | nil => intro _; rfl
    | cons x D ih =>
      intro h
      have hx := h x List.mem_cons_self
      have : dimE x = 0 := by unfold dimE; rw [if_pos hx.1, if_neg hx.2]
      unfold dimsE
      rw [if_pos this]
      exact ih fun y hy => h y (List.mem_cons_of_mem _ hy)
  rw [if_pos (e hD), if_pos hp]
theorem nthN_bd {l h s k : Int} (hk : chk l h s = 0) : -1000000 ≤ nthN l h s k ∧ nthN l h s k ≤ 1000000 := by
  obtain ⟨a1, a2, a3, a4, _, _, a5, _⟩ := chk_bounds hk
  unfold nthN
  split
  · rename_i e
    unfold nthE at e
    rw [if_pos hk] at e
    by_cases c : 0 ≤ k ∧ k < siz l h s
    · have hle := le_of_siz (show 1 ≤ siz l h s by omega)
      have c2 := c.2
      rw [siz_ok hk hle] at c2
      have m := mul_bd k (h - l) (magA s) c.1 c2 a5
      split <;> omega
    · rw [if_neg c] at e; omega
  · omega
theorem idx_bd {X : List R3} (hn : X.length = 1 ∨ X.length = 2) (hu : Up X) {k a : Int} (ha : a ∈ idxL X k) : -1000000 ≤ a ∧ a ≤ 1000000 := by
  match X, hn, hu, ha with
  | [x], _, hu, ha =>
    rw [idxL_one] at ha
    simp at ha
    subst ha
    exact nthN_bd (hu x (by simp)).1
  | [x, y], _, hu, ha =>
    rw [idxL_two] at ha
    simp at ha
    rcases ha with rfl | rfl
    · exact nthN_bd (hu x (by simp)).1
    · exact nthN_bd (hu y (by simp)).1
theorem Ri.at {w : World} {o : Option Addr} {n c : Nat} {l : List Int} (r : Ri w (.slice o n c) l) {i : Nat} {x : Int} (hx : l[i]? = some x) :
    ∃ b f : Nat, o = some ⟨b, f, none⟩ ∧ b < w.heap.size ∧ w.cell? ⟨b, f + i, none⟩ = some (.int .i64 x) := by
  obtain ⟨ao, cap, e, h⟩ := r
  cases e
  have hi := (List.getElem?_eq_some_iff.1 hx).1
  obtain ⟨b, f, e, z, q⟩ := h.resolve_left (by omega)
  exact ⟨b, f, e, z, q i x hx⟩
theorem up_ok {D : List R3} (hD : Up D) : Ok3 D := fun x hx => chk_i64 (hD x hx).1
set_option maxRecDepth 100000 in
set_option maxHeartbeats 25600000 in
theorem dr_bad (v : Value) (L : List R3) (k s h a b : Int) (w : World) (hr : Rd w v L) (hL : Ok3 L) (sb : smallB L k s h = false) :
    Calls Try.prog 16 #[.agg #[v, .int .i64 k, .int .i64 s, .int .i64 h], .int .i8 a, .int .i8 b] w fun e w' => e = .returned (.bool true) ∧ Below w.heap.size w w' := by
  have HL := Lib.hid hL
  have HR : Hid (Rd w v L) := Lib.hid hr
  obtain ⟨od, cd, rfl, _⟩ := hr
  clear hL
  go_enter Try.func16, Try.ntmps16
  go_wp2_with fail
  refine (small_dom _ L k s h _ (HR.out.keep (below_new _ _)) HL.out).mono ?_
  rintro e w1 ⟨rfl, hb1⟩
  rw [sb]
  have R1 := resD hb1
  have D1 : Hid (DSt w (.slice od L.length cd) k s h w1) := Lib.hid ⟨R1.1, R1.2⟩
  clear hb1 R1
  go_wp2_with fail
  refine (awake2_any _).mono ?_
  rintro e y1 ⟨rfl, hb⟩
  have B := Lib.hid (D1.out.below.trans (hb.mono D1.out.below.size))
  clear hb D1
  go_wp2
  exact bodyPost_ret (v := .bool true) (by simp [results, Try.results16, go_sem, *]) rfl ⟨rfl, B.out⟩
set_option maxRecDepth 100000 in
set_option maxHeartbeats 25600000 in
theorem dr_zero (v : Value) (L : List R3) (k s h a b : Int) (w : World) (hr : Rd w v L) (hL : Ok3 L) (sb : smallB L k s h = true) (sz : dsiz L k s h = 0) :
    Calls Try.prog 16 #[.agg #[v, .int .i64 k, .int .i64 s, .int .i64 h], .int .i8 a, .int .i8 b] w fun e w' => e = .returned (.bool true) ∧ Below w.heap.size w w' := by
  have HL := Lib.hid hL
  have HR : Hid (Rd w v L) := Lib.hid hr
  obtain ⟨od, cd, rfl, _⟩ := hr
  clear hL
  go_enter Try.func16, Try.ntmps16
  go_wp2_with fail
  refine (small_dom _ L k s h _ (HR.out.keep (below_new _ _)) HL.out).mono ?_
  rintro e w1 ⟨rfl, hb1⟩
  rw [sb]
  have R1 := resD hb1
  have D1 : Hid (DSt w (.slice od L.length cd) k s h w1) := Lib.hid ⟨R1.1, R1.2⟩
  clear hb1 R1
  have d0 := D1.out.d.c0
  have d1 := D1.out.d.c1
  have d2 := D1.out.d.c2
  have d3 := D1.out.d.c3
  go_wp2_with fail
  refine (Dsize_any _ L k s h _ (HR.out.keep D1.out.below) HL.out).mono ?_
  rintro e w2 ⟨rfl, hb2⟩
  rw [sz]
  have D2 := Lib.hid (D1.out.keep hb2)
  clear hb2 D1 d0 d1 d2 d3
  go_wp2_with fail
  refine (awake2_any _).mono ?_
  rintro e y1 ⟨rfl, hb⟩
  have B := Lib.hid (D2.out.below.trans (hb.mono D2.out.below.size))
  clear hb D2
  go_wp2
  exact bodyPost_ret (v := .bool true) (by simp [results, Try.results16, go_sem, *]) rfl ⟨rfl, B.out⟩
set_option maxRecDepth 100000 in
set_option maxHeartbeats 25600000 in
theorem dr_good (v : Value) (L : List R3) (k s h a b : Int) (w : World) (hr : Rd w v L) (hL : Ok3 L) (c : dchk L k s h = 0) (p0 : prodL L ≤ 500) (pz : ¬ prodL L = 0) :
    Calls Try.prog 16 #[.agg #[v, .int .i64 k, .int .i64 s, .int .i64 h], .int .i8 a, .int .i8 b] w fun e w' => e = .returned (.bool true) ∧ Below w.heap.size w w' := by
  have HL := Lib.hid hL
  have HR : Hid (Rd w v L) := Lib.hid hr
  obtain ⟨od, cd, rfl, _⟩ := hr
  clear hL
  obtain ⟨gE, pE, sE⟩ := mvEx
  have PE := Lib.hid pE
  have SE := Lib.hid sE
  clear pE sE
  obtain ⟨gX, pX, sX⟩ := mvXt
  have PX := Lib.hid pX
  have SX := Lib.hid sX
  clear pX sX
  obtain ⟨gI, pI, sI⟩ := mvIn
  have PI := Lib.hid pI
  have SI := Lib.hid sI
  clear pI sI
  obtain ⟨gT, pT, sT⟩ := mvTr
  have PT := Lib.hid pT
  have ST := Lib.hid sT
  clear pT sT
  have DC := Lib.hid c
  have rk := Lib.hid (dchk_rank c)
  have UL : Hid (Up L) := Lib.hid (dchk_zero c).2.2
  have PL := Lib.hid (dchk_zero c).2.1
  have EZ : Hid (dsiz L k s h = prodL L) := Lib.hid (by unfold dsiz; rw [if_pos c])
  have SB : Hid (smallB L k s h = true) := Lib.hid (by unfold smallB; simp [c, p0])
  have pz' : (prodL L == 0) = false := by simp [pz]
  have PZ : Hid (1 ≤ prodL L ∧ prodL L ≤ 500) := Lib.hid (by have := prodL_bd L; omega)
  have lc : (L.length : Int) ≤ 2 := by have := rk.out; omega
  have ta := tmod_bd a
  have tb := tmod_bd b
  have wa : IntKind.i64.wrap (a.tmod 21) = a.tmod 21 := IntWalk.i64_in _ (by omega)
  have wb : IntKind.i64.wrap (b.tmod 21) = b.tmod 21 := IntWalk.i64_in _ (by omega)
  obtain ⟨ns, hns⟩ : ∃ ns, ns = [a.tmod 21, b.tmod 21].take L.length := ⟨_, rfl⟩
  have HNS := Lib.hid hns
  have LN : Hid (ns.length = L.length) := Lib.hid (by rw [hns, List.length_take]; simp; have := rk.out; omega)
  have BN : Hid (∀ n ∈ ns, -20 ≤ n ∧ n ≤ 20) := Lib.hid (fun n hn => by
    rw [hns] at hn
    have := List.mem_of_mem_take hn
    simp at this
    rcases this with rfl | rfl <;> omega)
  have OKN : Hid (Ok1 ns) := Lib.hid (fun n hn => by have := BN.out n hn; unfold I64; omega)
  have PGH : Hid (PG L ns) := Lib.hid ⟨rk.out, UL.out, fun x hx => siz_pos_of (by have := rk.out; omega) (by have := PZ.out; omega) hx, LN.out, BN.out⟩
  have ln2 : Hid (ns.length ≤ 2) := Lib.hid (by have := LN.out; have := rk.out; omega)
  clear c p0 pz hns ta tb
  go_enter Try.func16, Try.ntmps16
  go_wp2_with fail
  refine (small_dom _ L k s h _ (HR.out.keep (below_new _ _)) HL.out).mono ?_
  rintro e w1 ⟨rfl, hb1⟩
  rw [SB.out]
  have R1 := resD hb1
  have D1 : Hid (DSt w (.slice od L.length cd) k s h w1) := Lib.hid ⟨R1.1, R1.2⟩
  clear hb1 R1
  have d0 := D1.out.d.c0
  have d1 := D1.out.d.c1
  have d2 := D1.out.d.c2
  have d3 := D1.out.d.c3
  go_wp2_with fail
  refine (Dsize_any _ L k s h _ (HR.out.keep D1.out.below) HL.out).mono ?_
  rintro e w2 ⟨rfl, hb2⟩
  rw [EZ.out]
  have D2 := Lib.hid (D1.out.keep hb2)
  clear hb2 D1 d0 d1 d2 d3
  have d0 := fun o => ((below_new w2 o).cell (p := ⟨w.heap.size, 0, none⟩) D2.out.d.size).trans D2.out.d.c0
  go_upto_region 5 with fail
  have T0 : Hid (PSt w (.slice od L.length cd) k s h (.slice (some ⟨w2.heap.size, 0, none⟩) L.length 2) ns (w2.alloc (.cells #[.int .i64 (a.tmod 21), .int .i64 (b.tmod 21)] 3))) := Lib.hid (by
    have nb := below_new w2 (.cells #[.int .i64 (a.tmod 21), .int .i64 (b.tmod 21)] 3)
    refine ⟨D2.out.below.trans (nb.mono D2.out.below.size), D2.out.d.keep nb, ?_⟩
    rw [HNS.out]
    exact two_at2 rk.out)
  clear d0 D2 pz' wa wb HNS
  generalize w2.alloc (.cells #[.int .i64 (a.tmod 21), .int .i64 (b.tmod 21)] 3) = w3 at *
  generalize w2.heap.size = gb at *
  have d0 := T0.out.d.c0
  have d1 := T0.out.d.c1
  have d2 := T0.out.d.c2
  have d3 := T0.out.d.c3
  go_wp2_with fail
  refine (DExpand_any gE PE _ L k s h _ ns _ (HR.out.keep T0.out.below) HL.out T0.out.n OKN.out).mono ?_
  rintro e u4 ⟨rv, kk, ss, hh, er, rfl, hb, _, hE⟩
  obtain ⟨X, rx, HX⟩ := mv_pg hE.out DC.out LN.out
  obtain ⟨ox, cx, rfl, qx⟩ := rx
  have Rx : Hid (Rd u4 (.slice ox X.length cx) X) := Lib.hid ⟨ox, cx, rfl, qx⟩
  have TA := Lib.hid (T0.out.keep hb)
  clear hb hE qx T0 d0 d1 d2 d3
  go_upto_region 6 with fail
  have nb := below_new u4 (.cells #[.slice ox X.length cx, .int .i64 kk, .int .i64 ss, .int .i64 hh] 62)
  have K1 : Hid (DB u4.heap.size (.slice ox X.length cx) X kk ss hh (u4.alloc (.cells #[.slice ox X.length cx, .int .i64 kk, .int .i64 ss, .int .i64 hh] 62))) := Lib.hid ⟨Blk.new _ _ _ _ _ _, Rx.out.keep nb⟩
  have T1 := Lib.hid (TA.out.keep nb)
  clear nb TA Rx
  generalize u4.alloc (.cells #[.slice ox X.length cx, .int .i64 kk, .int .i64 ss, .int .i64 hh] 62) = w4 at *
  generalize u4.heap.size = gx at *
  go_cut [65] (fun v wx => ∃ bb : Bool, v = .bool bb ∧ Hid (bb = true → er = 0 ∧ ∀ n ∈ ns, 0 ≤ n) ∧ Hid (PSt w (.slice od L.length cd) k s h (.slice (some ⟨gb, 0, none⟩) L.length 2) ns wx) ∧ Hid (DB gx (.slice ox X.length cx) X kk ss hh wx))
  case first =>
    by_cases e0 : er = 0
    · have E0 := Lib.hid e0
      have e0' : (er == 0) = true := by simp [e0]
      clear e0
      go_wp2_with fail
      refine (minInt_any _ ns _ T1.out.n (by have := LN.out; have := rk.out; omega) ln2.out).mono ?_
      rintro e w5 ⟨m, rfl, rfl, HM⟩
      by_cases m0 : 0 ≤ m
      · have m0' : decide (0 ≤ m) = true := by simp [m0]
        have M0 := Lib.hid m0
        clear m0
        go_wp2_with fail
        go_meet
        exact ⟨true, rfl, Lib.hid (fun _ => ⟨E0.out, HM.out.1 M0.out⟩), T1, K1⟩
      · have m0' : decide (0 ≤ m) = false := by simp; omega
        clear m0
        go_wp2_with fail
        go_meet
        exact ⟨false, rfl, Lib.hid (fun h => by cases h), T1, K1⟩
    · have e0' : (er == 0) = false := by simp [e0]
      clear e0
      go_wp2_with fail
      go_meet
      exact ⟨false, rfl, Lib.hid (fun h => by cases h), T1, K1⟩
  case rest =>
    obtain ⟨bb, rfl, HBB, T2, K2⟩ := hcut
    clear T1 K1
    go_upto_if 65 with (fail)
    go_cut [6] (fun _ wx => Hid (PSt w (.slice od L.length cd) k s h (.slice (some ⟨gb, 0, none⟩) L.length 2) ns wx))
    case first =>
      as_aux_lemma =>
        cases bb
        · go_wp2_with fail
          go_meet
          exact T2
        · obtain ⟨E0', N0'⟩ := HBB.out rfl
          have N0 := Lib.hid N0'
          have XE := Lib.hid (HX.out E0')
          clear N0' E0' HBB HX
          obtain ⟨rfl, rfl, rfl, -⟩ := XE.out
          have XL : Hid (X.length = L.length) := Lib.hid XE.out.2.2.2.1
          have XR := Lib.hid XE.out.2.2.2.2
          have XP := Lib.hid (ex_pg SE.out PGH.out N0.out XL.out XR.out)
          have XC : Hid (dchk X kk ss hh = 0) := Lib.hid (up_dchk (by have := rk.out; have := XL.out; omega) XP.out.up PL.out)
          have XO : Hid (Ok3 X) := Lib.hid (up_ok XP.out.up)
          have XW := Lib.hid (ex_subs SE.out PGH.out N0.out XR.out)
          clear XE
          go_upto_region 7 with fail
          have OKM : Hid (Ok1 (negs ns)) := Lib.hid (fun m hm => by
            have := XP.out.sm m hm
            unfold I64; omega)
          refine wp_region_held_drew (S := (fun w' => Below wc.heap.size wc w')) (by kernel_rfl) (to_drew (Below.refl _ _)) (fun hHeld => ?_)
          obtain ⟨v0, hv0⟩ : ∃ v0, v0 = wc.drew := ⟨_, rfl⟩
          rw [← hv0] at hHeld ⊢
          clear hv0
          refine wpAnyH_take (i := 0) (oi := { dst := some 67, op := Op.load 62 (Operand.tmp 9), type := 62, pos := "outright.go:114", after := #[], guard := none }) (v := ?_) rfl (by kernel_rfl) (by kernel_rfl) (by kernel_rfl) (fun _ _ _ h => h) (Or.inl ⟨by rfl, ?_⟩) (by assumption) ?_
          rotate_left
          · (intro wq hSw; (try dsimp only at hSw); have K := K2.out.keep hSw; have c0 := K.b.c0; have c1 := K.b.c1; have c2 := K.b.c2; have c3 := K.b.c3; clear K; clear hSw; go_simp; first | done | with_reducible rfl)
          try simp only [Act.put, List.setIfInBounds_toArray, List.set_cons_zero, List.set_cons_succ]
          refine wpAnyH_take (i := 1) (oi := { dst := some 68, op := Op.move (Operand.tmp 8), type := 93, pos := "outright.go:114", after := #[], guard := none }) (v := ?_) rfl (by kernel_rfl) (by kernel_rfl) (by kernel_rfl) (fun _ _ _ h => h) (Or.inl ⟨by rfl, ?_⟩) (by assumption) ?_
          rotate_left
          · (intro wq hSw; (try dsimp only at hSw); have K := K2.out.keep hSw; have c0 := K.b.c0; have c1 := K.b.c1; have c2 := K.b.c2; have c3 := K.b.c3; clear K; clear hSw; go_simp; first | done | with_reducible rfl)
          try simp only [Act.put, List.setIfInBounds_toArray, List.set_cons_zero, List.set_cons_succ]
          refine wpAnyH_take (i := 2) (oi := { dst := some 69, op := Op.move (Operand.tmp 7), type := 48, pos := "outright.go:114", after := #[], guard := none }) (v := ?_) rfl (by kernel_rfl) (by kernel_rfl) (by kernel_rfl) (fun _ _ _ h => h) (Or.inl ⟨by rfl, ?_⟩) (by assumption) ?_
          rotate_left
          · (intro wq hSw; (try dsimp only at hSw); have K := K2.out.keep hSw; have c0 := K.b.c0; have c1 := K.b.c1; have c2 := K.b.c2; have c3 := K.b.c3; clear K; clear hSw; go_simp; first | done | with_reducible rfl)
          try simp only [Act.put, List.setIfInBounds_toArray, List.set_cons_zero, List.set_cons_succ]
          refine wpAnyH_ready (rs := [3, 8]) (by kernel_rfl) (by simp) ?_
          refine AllReadyH.cons (o := { dst := some 70, op := Op.call { callee := Callee.value (Operand.tmp 68), args := #[Operand.tmp 69], argTypes := #[48] }, type := 48, pos := "outright.go:114", after := #[{ on := 1, ground := Ground.data }, { on := 2, ground := Ground.data }], guard := none }) rfl (fun K hK => ?_) ?_
          · go_simp
            refine (minus_any _ ns _ (T2.out.keep hHeld).n BN.out ln2.out).mono ?_
            rintro e v1 ⟨mv, rfl, hq, Rm⟩
            have hq : Below v0.heap.size v0 v1 := ⟨hq.os, hq.tape, hq.output, hq.size, hq.block⟩
            obtain ⟨om, cm, rfl, qm⟩ := Rm
            have Rm : Ri v1 (.slice om (negs ns).length cm) (negs ns) := ⟨om, cm, rfl, qm⟩
            clear qm
            have hS := hHeld.trans (hq.mono hHeld.size)
            go_wp2_with fail
            refine hK.out _ _ hS (fun hHeld => ?_)
            clear hK K hHeld
            clear hq
            have hHeld := hS
            clear hS
            try simp only [Act.put, List.setIfInBounds_toArray, List.set_cons_zero, List.set_cons_succ]
            refine wpAnyH_ready (rs := [4, 8]) (by kernel_rfl) (by simp) ?_
            refine AllReadyH.cons (o := { dst := some 71, op := Op.call { callee := Callee.value (Operand.func 76), args := #[Operand.tmp 67, Operand.tmp 70], argTypes := #[62, 48] }, type := 63, pos := "outright.go:114", after := #[{ on := 0, ground := Ground.data }, { on := 3, ground := Ground.data }, { on := 3, ground := Ground.chain }], guard := none }) rfl (fun K hK => ?_) ?_
            · go_simp
              refine (DExpand_any gE PE _ X kk ss hh _ (negs ns) _ (K2.out.keep hHeld).r XO.out Rm OKM.out).mono ?_
              rintro e v2 ⟨yv, k2, s2, h2, er2, rfl, hq, _, hE2⟩
              have hq : Below v1.heap.size v1 v2 := ⟨hq.os, hq.tape, hq.output, hq.size, hq.block⟩
              have Rm := Rm.keep hq
              obtain ⟨z1, z2, z3, z4, OY⟩ := ex_ret SE.out PGH.out N0.out XL.out XR.out hE2.out XC.out
              subst z1 z2 z3 z4
              obtain ⟨oy, cy, rfl⟩ := owns_slice OY
              have hS := hHeld.trans (hq.mono hHeld.size)
              go_wp2_with fail
              refine hK.out _ _ hS (fun hHeld => ?_)
              clear hK K hHeld
              clear hq hE2
              have hHeld := hS
              clear hS
              try simp only [Act.put, List.setIfInBounds_toArray, List.set_cons_zero, List.set_cons_succ]
              refine wpAnyH_take (i := 5) (oi := { dst := some 66, op := Op.move (Operand.tmp 71), type := 63, pos := "outright.go:114", after := #[{ on := 4, ground := Ground.data }], guard := none }) (v := ?_) rfl (by kernel_rfl) (by kernel_rfl) (by kernel_rfl) (fun _ _ _ h => h) (Or.inl ⟨by rfl, ?_⟩) (by assumption) ?_
              rotate_left
              · (intro wq hSw; (try dsimp only at hSw); have K := K2.out.keep hSw; have c0 := K.b.c0; have c1 := K.b.c1; have c2 := K.b.c2; have c3 := K.b.c3; clear K; clear hSw; go_simp; first | done | with_reducible rfl)
              try simp only [Act.put, List.setIfInBounds_toArray, List.set_cons_zero, List.set_cons_succ]
              refine wpAnyH_take (i := 6) (oi := { dst := some 72, op := Op.extract (Operand.tmp 66) 0, type := 62, pos := "outright.go:114", after := #[{ on := 5, ground := Ground.data }], guard := none }) (v := ?_) rfl (by kernel_rfl) (by kernel_rfl) (by kernel_rfl) (fun _ _ _ h => h) (Or.inl ⟨by rfl, ?_⟩) (by assumption) ?_
              rotate_left
              · (intro wq hSw; (try dsimp only at hSw); have K := K2.out.keep hSw; have c0 := K.b.c0; have c1 := K.b.c1; have c2 := K.b.c2; have c3 := K.b.c3; clear K; clear hSw; go_simp; first | done | with_reducible rfl)
              try simp only [Act.put, List.setIfInBounds_toArray, List.set_cons_zero, List.set_cons_succ]
              refine wpAnyH_take (i := 7) (oi := { dst := some 73, op := Op.extract (Operand.tmp 66) 1, type := 24, pos := "outright.go:114", after := #[{ on := 5, ground := Ground.data }, { on := 9, ground := Ground.gcOnly Departure.lateStores }], guard := none }) (v := ?_) rfl (by kernel_rfl) (by kernel_rfl) (by kernel_rfl) (fun _ _ _ h => h) (Or.inl ⟨by rfl, ?_⟩) (by assumption) ?_
              rotate_left
              · (intro wq hSw; (try dsimp only at hSw); have K := K2.out.keep hSw; have c0 := K.b.c0; have c1 := K.b.c1; have c2 := K.b.c2; have c3 := K.b.c3; clear K; clear hSw; go_simp; first | done | with_reducible rfl)
              try simp only [Act.put, List.setIfInBounds_toArray, List.set_cons_zero, List.set_cons_succ]
              refine wpAnyH_ready (rs := [8]) (by kernel_rfl) (by simp) ?_
              refine AllReadyH.cons (o := { dst := some 11, op := Op.alloc 62, type := 0, pos := "outright.go:114", after := #[], guard := none }) rfl (fun K hK => ?_) AllReadyH.nil
              go_simp
              have nb := below_new v2 (.cells #[.slice none 0 0, .int .i64 0, .int .i64 0, .int .i64 0] 62)
              have PB := fun g hg => (OY.lt g hg).2
              have Rm := Rm.keep nb
              have OY := owns_below OY nb
              have Zb := Blk.new (.slice none 0 0) (.int .i64 0) (.int .i64 0) (.int .i64 0) 62 v2
              have hS := hHeld.trans (nb.mono hHeld.size)
              have ZB : wc.heap.size ≤ v2.heap.size := hHeld.size
              refine hK.out _ _ hS (fun hHeld => ?_)
              clear hK K hHeld
              clear nb
              generalize v2.alloc (.cells #[.slice none 0 0, .int .i64 0, .int .i64 0, .int .i64 0] 62) = v3 at *
              generalize v2.heap.size = bk at *
              have hHeld := hS
              clear hS
              try simp only [Act.put, List.setIfInBounds_toArray, List.set_cons_zero, List.set_cons_succ]
              refine wpAnyH_ready (rs := [9]) (by kernel_rfl) (by simp) ?_
              refine AllReadyH.cons (o := { dst := none, op := Op.store 62 (Operand.tmp 11) (Operand.tmp 72), type := 0, pos := "outright.go:114", after := #[{ on := 8, ground := Ground.data }, { on := 6, ground := Ground.data }, { on := 4, ground := Ground.chain }, { on := 0, ground := Ground.phase }, { on := 1, ground := Ground.phase }, { on := 2, ground := Ground.phase }, { on := 3, ground := Ground.phase }, { on := 4, ground := Ground.phase }, { on := 5, ground := Ground.phase }, { on := 6, ground := Ground.phase }, { on := 7, ground := Ground.textOnly Departure.lateStores }, { on := 8, ground := Ground.phase }], guard := none }) rfl (fun K hK => ?_) AllReadyH.nil
              go_simp
              have c0 := Zb.c0
              have c1 := Zb.c1
              have c2 := Zb.c2
              have d3 := Zb.c3
              have f0 := Zb.f0
              have f1 := Zb.f1
              have f2 := Zb.f2
              have f3 := Zb.f3
              go_simp
              have hS := hHeld.trans (set4_below ZB (.slice oy L.length cy) (.int .i64 k2) (.int .i64 s2) (.int .i64 h2))
              have Zb := Zb.set (.slice oy L.length cy) (.int .i64 k2) (.int .i64 s2) (.int .i64 h2)
              have OY := owns_under OY (set4_below (Nat.le_refl bk) (.slice oy L.length cy) (.int .i64 k2) (.int .i64 s2) (.int .i64 h2)) PB
              refine hK.out _ _ hS (fun hHeld => ?_)
              clear hK K hHeld
              clear c0 c1 c2 d3 f0 f1 f2 f3
              change wpAnyH _ _ _ _ _ _ _ _ (set4 v3 bk (.slice oy L.length cy) (.int .i64 k2) (.int .i64 s2) (.int .i64 h2))
              generalize set4 v3 bk (.slice oy L.length cy) (.int .i64 k2) (.int .i64 s2) (.int .i64 h2) = v4 at *
              have hHeld := hS
              clear hS
              try simp only [Act.put, List.setIfInBounds_toArray, List.set_cons_zero, List.set_cons_succ]
              refine wpAnyH_take (i := 10) (oi := { dst := some 12, op := Op.assign (Operand.tmp 73), type := 24, pos := "outright.go:114", after := #[{ on := 7, ground := Ground.data }, { on := 9, ground := Ground.chain }, { on := 0, ground := Ground.phase }, { on := 1, ground := Ground.phase }, { on := 2, ground := Ground.phase }, { on := 3, ground := Ground.phase }, { on := 4, ground := Ground.phase }, { on := 5, ground := Ground.phase }, { on := 6, ground := Ground.phase }, { on := 7, ground := Ground.phase }, { on := 8, ground := Ground.phase }, { on := 9, ground := Ground.phase }], guard := none }) (v := ?_) rfl (by kernel_rfl) (by kernel_rfl) (by kernel_rfl) (fun _ _ _ h => h) (Or.inl ⟨by rfl, ?_⟩) (by assumption) ?_
              rotate_left
              · (intro wq hSw; (try dsimp only at hSw); have K := K2.out.keep hSw; have c0 := K.b.c0; have c1 := K.b.c1; have c2 := K.b.c2; have c3 := K.b.c3; clear K; clear hSw; go_simp; first | done | with_reducible rfl)
              try simp only [Act.put, List.setIfInBounds_toArray, List.set_cons_zero, List.set_cons_succ]
              refine wpAnyH_done (by kernel_rfl) ?_ _
              have TB3 := Lib.hid (T2.out.keep hHeld)
              have KB3 := Lib.hid (K2.out.keep hHeld)
              have ZB3 := Lib.hid Zb
              have RY3 := Lib.hid (Rd.of_own OY)
              clear hHeld Zb OY Rm PB ZB
              have d0 := TB3.out.d.c0
              have d1 := TB3.out.d.c1
              have d2 := TB3.out.d.c2
              have d3 := TB3.out.d.c3
              have x0 := KB3.out.b.c0
              have x1 := KB3.out.b.c1
              have x2 := KB3.out.b.c2
              have x3 := KB3.out.b.c3
              go_wp2_with fail
              refine (Dwin_any _ L k2 s2 h2 _ X k2 s2 h2 _ (HR.out.keep TB3.out.below) HL.out KB3.out.r XO.out).mono ?_
              rintro e y1 ⟨b1, er3, rfl, hb, hE3⟩
              obtain ⟨rfl, rfl⟩ := win_true DC.out XC.out XL.out.symm XW.out hE3
              have T4 := Lib.hid (TB3.out.keep hb)
              have ZB4 := Lib.hid (ZB3.out.keep hb)
              have RY4 := Lib.hid (RY3.out.keep hb)
              clear hb hE3 TB3 KB3 ZB3 RY3 d0 d1 d2 d3 x0 x1 x2 x3
              have d0 := T4.out.d.c0
              have d1 := T4.out.d.c1
              have d2 := T4.out.d.c2
              have d3 := T4.out.d.c3
              have q0 := ZB4.out.c0
              have q1 := ZB4.out.c1
              have q2 := ZB4.out.c2
              have q3 := ZB4.out.c3
              go_wp2_with fail
              refine (Dsame_any _ L k2 s2 h2 _ L k2 s2 h2 _ RY4.out HL.out (HR.out.keep T4.out.below) HL.out).mono ?_
              rintro e y2 ⟨rfl, hb⟩
              rw [same_true DC.out]
              have T5 := Lib.hid (T4.out.keep hb)
              clear hb T4 ZB4 RY4 d0 d1 d2 d3 q0 q1 q2 q3
              go_wp2_with fail
              go_meet
              exact T5
            refine AllReadyH.cons (o := { dst := some 11, op := Op.alloc 62, type := 0, pos := "outright.go:114", after := #[], guard := none }) rfl (fun K hK => ?_) ?_
            · go_simp
              have nb := below_new v1 (.cells #[.slice none 0 0, .int .i64 0, .int .i64 0, .int .i64 0] 62)
              have Rm := Rm.keep nb
              have Zb := Blk.new (.slice none 0 0) (.int .i64 0) (.int .i64 0) (.int .i64 0) 62 v1
              have hS := hHeld.trans (nb.mono hHeld.size)
              have ZB : wc.heap.size ≤ v1.heap.size := hHeld.size
              refine hK.out _ _ hS (fun hHeld => ?_)
              clear hK K hHeld
              clear nb
              generalize v1.alloc (.cells #[.slice none 0 0, .int .i64 0, .int .i64 0, .int .i64 0] 62) = v5 at *
              generalize v1.heap.size = bk at *
              have hHeld := hS
              clear hS
              try simp only [Act.put, List.setIfInBounds_toArray, List.set_cons_zero, List.set_cons_succ]
              refine wpAnyH_ready (rs := [4]) (by kernel_rfl) (by simp) ?_
              refine AllReadyH.cons (o := { dst := some 71, op := Op.call { callee := Callee.value (Operand.func 76), args := #[Operand.tmp 67, Operand.tmp 70], argTypes := #[62, 48] }, type := 63, pos := "outright.go:114", after := #[{ on := 0, ground := Ground.data }, { on := 3, ground := Ground.data }, { on := 3, ground := Ground.chain }], guard := none }) rfl (fun K hK => ?_) AllReadyH.nil
              go_simp
              have PB : bk < v5.heap.size := Zb.size
              refine (DExpand_any gE PE _ X kk ss hh _ (negs ns) _ (K2.out.keep hHeld).r XO.out Rm OKM.out).mono ?_
              rintro e v6 ⟨yv, k2, s2, h2, er2, rfl, hq, _, hE2⟩
              have hq : Below v5.heap.size v5 v6 := ⟨hq.os, hq.tape, hq.output, hq.size, hq.block⟩
              have Rm := Rm.keep hq
              have Zb := Zb.keep hq
              obtain ⟨z1, z2, z3, z4, OY⟩ := ex_ret SE.out PGH.out N0.out XL.out XR.out hE2.out XC.out
              subst z1 z2 z3 z4
              obtain ⟨oy, cy, rfl⟩ := owns_slice OY
              have hS := hHeld.trans (hq.mono hHeld.size)
              go_wp2_with fail
              refine hK.out _ _ hS (fun hHeld => ?_)
              clear hK K hHeld
              clear hq hE2
              have hHeld := hS
              clear hS
              try simp only [Act.put, List.setIfInBounds_toArray, List.set_cons_zero, List.set_cons_succ]
              refine wpAnyH_take (i := 5) (oi := { dst := some 66, op := Op.move (Operand.tmp 71), type := 63, pos := "outright.go:114", after := #[{ on := 4, ground := Ground.data }], guard := none }) (v := ?_) rfl (by kernel_rfl) (by kernel_rfl) (by kernel_rfl) (fun _ _ _ h => h) (Or.inl ⟨by rfl, ?_⟩) (by assumption) ?_
              rotate_left
              · (intro wq hSw; (try dsimp only at hSw); have K := K2.out.keep hSw; have c0 := K.b.c0; have c1 := K.b.c1; have c2 := K.b.c2; have c3 := K.b.c3; clear K; clear hSw; go_simp; first | done | with_reducible rfl)
              try simp only [Act.put, List.setIfInBounds_toArray, List.set_cons_zero, List.set_cons_succ]
              refine wpAnyH_take (i := 6) (oi := { dst := some 72, op := Op.extract (Operand.tmp 66) 0, type := 62, pos := "outright.go:114", after := #[{ on := 5, ground := Ground.data }], guard := none }) (v := ?_) rfl (by kernel_rfl) (by kernel_rfl) (by kernel_rfl) (fun _ _ _ h => h) (Or.inl ⟨by rfl, ?_⟩) (by assumption) ?_
              rotate_left
              · (intro wq hSw; (try dsimp only at hSw); have K := K2.out.keep hSw; have c0 := K.b.c0; have c1 := K.b.c1; have c2 := K.b.c2; have c3 := K.b.c3; clear K; clear hSw; go_simp; first | done | with_reducible rfl)
              try simp only [Act.put, List.setIfInBounds_toArray, List.set_cons_zero, List.set_cons_succ]
              refine wpAnyH_take (i := 7) (oi := { dst := some 73, op := Op.extract (Operand.tmp 66) 1, type := 24, pos := "outright.go:114", after := #[{ on := 5, ground := Ground.data }, { on := 9, ground := Ground.gcOnly Departure.lateStores }], guard := none }) (v := ?_) rfl (by kernel_rfl) (by kernel_rfl) (by kernel_rfl) (fun _ _ _ h => h) (Or.inl ⟨by rfl, ?_⟩) (by assumption) ?_
              rotate_left
              · (intro wq hSw; (try dsimp only at hSw); have K := K2.out.keep hSw; have c0 := K.b.c0; have c1 := K.b.c1; have c2 := K.b.c2; have c3 := K.b.c3; clear K; clear hSw; go_simp; first | done | with_reducible rfl)
              try simp only [Act.put, List.setIfInBounds_toArray, List.set_cons_zero, List.set_cons_succ]
              refine wpAnyH_ready (rs := [9]) (by kernel_rfl) (by simp) ?_
              refine AllReadyH.cons (o := { dst := none, op := Op.store 62 (Operand.tmp 11) (Operand.tmp 72), type := 0, pos := "outright.go:114", after := #[{ on := 8, ground := Ground.data }, { on := 6, ground := Ground.data }, { on := 4, ground := Ground.chain }, { on := 0, ground := Ground.phase }, { on := 1, ground := Ground.phase }, { on := 2, ground := Ground.phase }, { on := 3, ground := Ground.phase }, { on := 4, ground := Ground.phase }, { on := 5, ground := Ground.phase }, { on := 6, ground := Ground.phase }, { on := 7, ground := Ground.textOnly Departure.lateStores }, { on := 8, ground := Ground.phase }], guard := none }) rfl (fun K hK => ?_) AllReadyH.nil
              go_simp
              have c0 := Zb.c0
              have c1 := Zb.c1
              have c2 := Zb.c2
              have d3 := Zb.c3
              have f0 := Zb.f0
              have f1 := Zb.f1
              have f2 := Zb.f2
              have f3 := Zb.f3
              go_simp
              have hS := hHeld.trans (set4_below ZB (.slice oy L.length cy) (.int .i64 k2) (.int .i64 s2) (.int .i64 h2))
              have Zb := Zb.set (.slice oy L.length cy) (.int .i64 k2) (.int .i64 s2) (.int .i64 h2)
              have OY : (set4 v6 bk (.slice oy L.length cy) (.int .i64 k2) (.int .i64 s2) (.int .i64 h2)).ownsRow v5.heap.size 23 3 (.slice oy L.length cy) L.length (cells3 L) := by
                unfold set4
                exact ownsRow_setCell_below (ownsRow_setCell_below (ownsRow_setCell_below (ownsRow_setCell_below OY (by simpa using PB) _) (by simpa using PB) _) (by simpa using PB) _) (by simpa using PB) _
              refine hK.out _ _ hS (fun hHeld => ?_)
              clear hK K hHeld
              clear c0 c1 c2 d3 f0 f1 f2 f3
              change wpAnyH _ _ _ _ _ _ _ _ (set4 v6 bk (.slice oy L.length cy) (.int .i64 k2) (.int .i64 s2) (.int .i64 h2))
              generalize set4 v6 bk (.slice oy L.length cy) (.int .i64 k2) (.int .i64 s2) (.int .i64 h2) = v7 at *
              have hHeld := hS
              clear hS
              try simp only [Act.put, List.setIfInBounds_toArray, List.set_cons_zero, List.set_cons_succ]
              refine wpAnyH_take (i := 10) (oi := { dst := some 12, op := Op.assign (Operand.tmp 73), type := 24, pos := "outright.go:114", after := #[{ on := 7, ground := Ground.data }, { on := 9, ground := Ground.chain }, { on := 0, ground := Ground.phase }, { on := 1, ground := Ground.phase }, { on := 2, ground := Ground.phase }, { on := 3, ground := Ground.phase }, { on := 4, ground := Ground.phase }, { on := 5, ground := Ground.phase }, { on := 6, ground := Ground.phase }, { on := 7, ground := Ground.phase }, { on := 8, ground := Ground.phase }, { on := 9, ground := Ground.phase }], guard := none }) (v := ?_) rfl (by kernel_rfl) (by kernel_rfl) (by kernel_rfl) (fun _ _ _ h => h) (Or.inl ⟨by rfl, ?_⟩) (by assumption) ?_
              rotate_left
              · (intro wq hSw; (try dsimp only at hSw); have K := K2.out.keep hSw; have c0 := K.b.c0; have c1 := K.b.c1; have c2 := K.b.c2; have c3 := K.b.c3; clear K; clear hSw; go_simp; first | done | with_reducible rfl)
              try simp only [Act.put, List.setIfInBounds_toArray, List.set_cons_zero, List.set_cons_succ]
              refine wpAnyH_done (by kernel_rfl) ?_ _
              have TB3 := Lib.hid (T2.out.keep hHeld)
              have KB3 := Lib.hid (K2.out.keep hHeld)
              have ZB3 := Lib.hid Zb
              have RY3 := Lib.hid (Rd.of_own OY)
              clear hHeld Zb OY Rm PB ZB
              have d0 := TB3.out.d.c0
              have d1 := TB3.out.d.c1
              have d2 := TB3.out.d.c2
              have d3 := TB3.out.d.c3
              have x0 := KB3.out.b.c0
              have x1 := KB3.out.b.c1
              have x2 := KB3.out.b.c2
              have x3 := KB3.out.b.c3
              go_wp2_with fail
              refine (Dwin_any _ L k2 s2 h2 _ X k2 s2 h2 _ (HR.out.keep TB3.out.below) HL.out KB3.out.r XO.out).mono ?_
              rintro e y1 ⟨b1, er3, rfl, hb, hE3⟩
              obtain ⟨rfl, rfl⟩ := win_true DC.out XC.out XL.out.symm XW.out hE3
              have T4 := Lib.hid (TB3.out.keep hb)
              have ZB4 := Lib.hid (ZB3.out.keep hb)
              have RY4 := Lib.hid (RY3.out.keep hb)
              clear hb hE3 TB3 KB3 ZB3 RY3 d0 d1 d2 d3 x0 x1 x2 x3
              have d0 := T4.out.d.c0
              have d1 := T4.out.d.c1
              have d2 := T4.out.d.c2
              have d3 := T4.out.d.c3
              have q0 := ZB4.out.c0
              have q1 := ZB4.out.c1
              have q2 := ZB4.out.c2
              have q3 := ZB4.out.c3
              go_wp2_with fail
              refine (Dsame_any _ L k2 s2 h2 _ L k2 s2 h2 _ RY4.out HL.out (HR.out.keep T4.out.below) HL.out).mono ?_
              rintro e y2 ⟨rfl, hb⟩
              rw [same_true DC.out]
              have T5 := Lib.hid (T4.out.keep hb)
              clear hb T4 ZB4 RY4 d0 d1 d2 d3 q0 q1 q2 q3
              go_wp2_with fail
              go_meet
              exact T5
            exact AllReadyH.nil
          refine AllReadyH.cons (o := { dst := some 11, op := Op.alloc 62, type := 0, pos := "outright.go:114", after := #[], guard := none }) rfl (fun K hK => ?_) ?_
          · go_simp
            have nb := below_new v0 (.cells #[.slice none 0 0, .int .i64 0, .int .i64 0, .int .i64 0] 62)
            have Zb := Blk.new (.slice none 0 0) (.int .i64 0) (.int .i64 0) (.int .i64 0) 62 v0
            have hS := hHeld.trans (nb.mono hHeld.size)
            have ZB : wc.heap.size ≤ v0.heap.size := hHeld.size
            refine hK.out _ _ hS (fun hHeld => ?_)
            clear hK K hHeld
            clear nb
            generalize v0.alloc (.cells #[.slice none 0 0, .int .i64 0, .int .i64 0, .int .i64 0] 62) = v8 at *
            generalize v0.heap.size = bk at *
            have hHeld := hS
            clear hS
            try simp only [Act.put, List.setIfInBounds_toArray, List.set_cons_zero, List.set_cons_succ]
            refine wpAnyH_ready (rs := [3]) (by kernel_rfl) (by simp) ?_
            refine AllReadyH.cons (o := { dst := some 70, op := Op.call { callee := Callee.value (Operand.tmp 68), args := #[Operand.tmp 69], argTypes := #[48] }, type := 48, pos := "outright.go:114", after := #[{ on := 1, ground := Ground.data }, { on := 2, ground := Ground.data }], guard := none }) rfl (fun K hK => ?_) AllReadyH.nil
            go_simp
            refine (minus_any _ ns _ (T2.out.keep hHeld).n BN.out ln2.out).mono ?_
            rintro e v9 ⟨mv, rfl, hq, Rm⟩
            have hq : Below v8.heap.size v8 v9 := ⟨hq.os, hq.tape, hq.output, hq.size, hq.block⟩
            have Zb := Zb.keep hq
            obtain ⟨om, cm, rfl, qm⟩ := Rm
            have Rm : Ri v9 (.slice om (negs ns).length cm) (negs ns) := ⟨om, cm, rfl, qm⟩
            clear qm
            have hS := hHeld.trans (hq.mono hHeld.size)
            go_wp2_with fail
            refine hK.out _ _ hS (fun hHeld => ?_)
            clear hK K hHeld
            clear hq
            have hHeld := hS
            clear hS
            try simp only [Act.put, List.setIfInBounds_toArray, List.set_cons_zero, List.set_cons_succ]
            refine wpAnyH_ready (rs := [4]) (by kernel_rfl) (by simp) ?_
            refine AllReadyH.cons (o := { dst := some 71, op := Op.call { callee := Callee.value (Operand.func 76), args := #[Operand.tmp 67, Operand.tmp 70], argTypes := #[62, 48] }, type := 63, pos := "outright.go:114", after := #[{ on := 0, ground := Ground.data }, { on := 3, ground := Ground.data }, { on := 3, ground := Ground.chain }], guard := none }) rfl (fun K hK => ?_) AllReadyH.nil
            go_simp
            have PB : bk < v9.heap.size := Zb.size
            refine (DExpand_any gE PE _ X kk ss hh _ (negs ns) _ (K2.out.keep hHeld).r XO.out Rm OKM.out).mono ?_
            rintro e v10 ⟨yv, k2, s2, h2, er2, rfl, hq, _, hE2⟩
            have hq : Below v9.heap.size v9 v10 := ⟨hq.os, hq.tape, hq.output, hq.size, hq.block⟩
            have Rm := Rm.keep hq
            have Zb := Zb.keep hq
            obtain ⟨z1, z2, z3, z4, OY⟩ := ex_ret SE.out PGH.out N0.out XL.out XR.out hE2.out XC.out
            subst z1 z2 z3 z4
            obtain ⟨oy, cy, rfl⟩ := owns_slice OY
            have hS := hHeld.trans (hq.mono hHeld.size)
            go_wp2_with fail
            refine hK.out _ _ hS (fun hHeld => ?_)
            clear hK K hHeld
            clear hq hE2
            have hHeld := hS
            clear hS
            try simp only [Act.put, List.setIfInBounds_toArray, List.set_cons_zero, List.set_cons_succ]
            refine wpAnyH_take (i := 5) (oi := { dst := some 66, op := Op.move (Operand.tmp 71), type := 63, pos := "outright.go:114", after := #[{ on := 4, ground := Ground.data }], guard := none }) (v := ?_) rfl (by kernel_rfl) (by kernel_rfl) (by kernel_rfl) (fun _ _ _ h => h) (Or.inl ⟨by rfl, ?_⟩) (by assumption) ?_
            rotate_left
            · (intro wq hSw; (try dsimp only at hSw); have K := K2.out.keep hSw; have c0 := K.b.c0; have c1 := K.b.c1; have c2 := K.b.c2; have c3 := K.b.c3; clear K; clear hSw; go_simp; first | done | with_reducible rfl)
            try simp only [Act.put, List.setIfInBounds_toArray, List.set_cons_zero, List.set_cons_succ]
            refine wpAnyH_take (i := 6) (oi := { dst := some 72, op := Op.extract (Operand.tmp 66) 0, type := 62, pos := "outright.go:114", after := #[{ on := 5, ground := Ground.data }], guard := none }) (v := ?_) rfl (by kernel_rfl) (by kernel_rfl) (by kernel_rfl) (fun _ _ _ h => h) (Or.inl ⟨by rfl, ?_⟩) (by assumption) ?_
            rotate_left
            · (intro wq hSw; (try dsimp only at hSw); have K := K2.out.keep hSw; have c0 := K.b.c0; have c1 := K.b.c1; have c2 := K.b.c2; have c3 := K.b.c3; clear K; clear hSw; go_simp; first | done | with_reducible rfl)
            try simp only [Act.put, List.setIfInBounds_toArray, List.set_cons_zero, List.set_cons_succ]
            refine wpAnyH_take (i := 7) (oi := { dst := some 73, op := Op.extract (Operand.tmp 66) 1, type := 24, pos := "outright.go:114", after := #[{ on := 5, ground := Ground.data }, { on := 9, ground := Ground.gcOnly Departure.lateStores }], guard := none }) (v := ?_) rfl (by kernel_rfl) (by kernel_rfl) (by kernel_rfl) (fun _ _ _ h => h) (Or.inl ⟨by rfl, ?_⟩) (by assumption) ?_
            rotate_left
            · (intro wq hSw; (try dsimp only at hSw); have K := K2.out.keep hSw; have c0 := K.b.c0; have c1 := K.b.c1; have c2 := K.b.c2; have c3 := K.b.c3; clear K; clear hSw; go_simp; first | done | with_reducible rfl)
            try simp only [Act.put, List.setIfInBounds_toArray, List.set_cons_zero, List.set_cons_succ]
            refine wpAnyH_ready (rs := [9]) (by kernel_rfl) (by simp) ?_
            refine AllReadyH.cons (o := { dst := none, op := Op.store 62 (Operand.tmp 11) (Operand.tmp 72), type := 0, pos := "outright.go:114", after := #[{ on := 8, ground := Ground.data }, { on := 6, ground := Ground.data }, { on := 4, ground := Ground.chain }, { on := 0, ground := Ground.phase }, { on := 1, ground := Ground.phase }, { on := 2, ground := Ground.phase }, { on := 3, ground := Ground.phase }, { on := 4, ground := Ground.phase }, { on := 5, ground := Ground.phase }, { on := 6, ground := Ground.phase }, { on := 7, ground := Ground.textOnly Departure.lateStores }, { on := 8, ground := Ground.phase }], guard := none }) rfl (fun K hK => ?_) AllReadyH.nil
            go_simp
            have c0 := Zb.c0
            have c1 := Zb.c1
            have c2 := Zb.c2
            have d3 := Zb.c3
            have f0 := Zb.f0
            have f1 := Zb.f1
            have f2 := Zb.f2
            have f3 := Zb.f3
            go_simp
            have hS := hHeld.trans (set4_below ZB (.slice oy L.length cy) (.int .i64 k2) (.int .i64 s2) (.int .i64 h2))
            have Zb := Zb.set (.slice oy L.length cy) (.int .i64 k2) (.int .i64 s2) (.int .i64 h2)
            have OY : (set4 v10 bk (.slice oy L.length cy) (.int .i64 k2) (.int .i64 s2) (.int .i64 h2)).ownsRow v9.heap.size 23 3 (.slice oy L.length cy) L.length (cells3 L) := by
              unfold set4
              exact ownsRow_setCell_below (ownsRow_setCell_below (ownsRow_setCell_below (ownsRow_setCell_below OY (by simpa using PB) _) (by simpa using PB) _) (by simpa using PB) _) (by simpa using PB) _
            refine hK.out _ _ hS (fun hHeld => ?_)
            clear hK K hHeld
            clear c0 c1 c2 d3 f0 f1 f2 f3
            change wpAnyH _ _ _ _ _ _ _ _ (set4 v10 bk (.slice oy L.length cy) (.int .i64 k2) (.int .i64 s2) (.int .i64 h2))
            generalize set4 v10 bk (.slice oy L.length cy) (.int .i64 k2) (.int .i64 s2) (.int .i64 h2) = v11 at *
            have hHeld := hS
            clear hS
            try simp only [Act.put, List.setIfInBounds_toArray, List.set_cons_zero, List.set_cons_succ]
            refine wpAnyH_take (i := 10) (oi := { dst := some 12, op := Op.assign (Operand.tmp 73), type := 24, pos := "outright.go:114", after := #[{ on := 7, ground := Ground.data }, { on := 9, ground := Ground.chain }, { on := 0, ground := Ground.phase }, { on := 1, ground := Ground.phase }, { on := 2, ground := Ground.phase }, { on := 3, ground := Ground.phase }, { on := 4, ground := Ground.phase }, { on := 5, ground := Ground.phase }, { on := 6, ground := Ground.phase }, { on := 7, ground := Ground.phase }, { on := 8, ground := Ground.phase }, { on := 9, ground := Ground.phase }], guard := none }) (v := ?_) rfl (by kernel_rfl) (by kernel_rfl) (by kernel_rfl) (fun _ _ _ h => h) (Or.inl ⟨by rfl, ?_⟩) (by assumption) ?_
            rotate_left
            · (intro wq hSw; (try dsimp only at hSw); have K := K2.out.keep hSw; have c0 := K.b.c0; have c1 := K.b.c1; have c2 := K.b.c2; have c3 := K.b.c3; clear K; clear hSw; go_simp; first | done | with_reducible rfl)
            try simp only [Act.put, List.setIfInBounds_toArray, List.set_cons_zero, List.set_cons_succ]
            refine wpAnyH_done (by kernel_rfl) ?_ _
            have TB3 := Lib.hid (T2.out.keep hHeld)
            have KB3 := Lib.hid (K2.out.keep hHeld)
            have ZB3 := Lib.hid Zb
            have RY3 := Lib.hid (Rd.of_own OY)
            clear hHeld Zb OY Rm PB ZB
            have d0 := TB3.out.d.c0
            have d1 := TB3.out.d.c1
            have d2 := TB3.out.d.c2
            have d3 := TB3.out.d.c3
            have x0 := KB3.out.b.c0
            have x1 := KB3.out.b.c1
            have x2 := KB3.out.b.c2
            have x3 := KB3.out.b.c3
            go_wp2_with fail
            refine (Dwin_any _ L k2 s2 h2 _ X k2 s2 h2 _ (HR.out.keep TB3.out.below) HL.out KB3.out.r XO.out).mono ?_
            rintro e y1 ⟨b1, er3, rfl, hb, hE3⟩
            obtain ⟨rfl, rfl⟩ := win_true DC.out XC.out XL.out.symm XW.out hE3
            have T4 := Lib.hid (TB3.out.keep hb)
            have ZB4 := Lib.hid (ZB3.out.keep hb)
            have RY4 := Lib.hid (RY3.out.keep hb)
            clear hb hE3 TB3 KB3 ZB3 RY3 d0 d1 d2 d3 x0 x1 x2 x3
            have d0 := T4.out.d.c0
            have d1 := T4.out.d.c1
            have d2 := T4.out.d.c2
            have d3 := T4.out.d.c3
            have q0 := ZB4.out.c0
            have q1 := ZB4.out.c1
            have q2 := ZB4.out.c2
            have q3 := ZB4.out.c3
            go_wp2_with fail
            refine (Dsame_any _ L k2 s2 h2 _ L k2 s2 h2 _ RY4.out HL.out (HR.out.keep T4.out.below) HL.out).mono ?_
            rintro e y2 ⟨rfl, hb⟩
            rw [same_true DC.out]
            have T5 := Lib.hid (T4.out.keep hb)
            clear hb T4 ZB4 RY4 d0 d1 d2 d3 q0 q1 q2 q3
            go_wp2_with fail
            go_meet
            exact T5
          exact AllReadyH.nil
    case rest =>
      have T3 := hcut
      clear hcut T2 K2 HBB HX
      have d0 := T3.out.d.c0
      have d1 := T3.out.d.c1
      have d2 := T3.out.d.c2
      have d3 := T3.out.d.c3
      go_wp2_with fail
      refine (DExterior_any gX PX _ L k s h _ ns _ (HR.out.keep T3.out.below) HL.out T3.out.n OKN.out).mono ?_
      rintro e u6 ⟨rv, kk, ss, hh, er, rfl, hb, _, hE⟩
      obtain ⟨X, rx, HX⟩ := mv_pg hE.out DC.out LN.out
      obtain ⟨ox, cx, rfl, qx⟩ := rx
      have Rx : Hid (Rd u6 (.slice ox X.length cx) X) := Lib.hid ⟨ox, cx, rfl, qx⟩
      have TA := Lib.hid (T3.out.keep hb)
      clear hb hE qx T3 d0 d1 d2 d3
      go_upto_region 12 with fail
      have nb := below_new u6 (.cells #[.slice ox X.length cx, .int .i64 kk, .int .i64 ss, .int .i64 hh] 62)
      have K1 : Hid (DB u6.heap.size (.slice ox X.length cx) X kk ss hh (u6.alloc (.cells #[.slice ox X.length cx, .int .i64 kk, .int .i64 ss, .int .i64 hh] 62))) := Lib.hid ⟨Blk.new _ _ _ _ _ _, Rx.out.keep nb⟩
      have T1 := Lib.hid (TA.out.keep nb)
      clear nb TA Rx
      generalize u6.alloc (.cells #[.slice ox X.length cx, .int .i64 kk, .int .i64 ss, .int .i64 hh] 62) = w6 at *
      generalize u6.heap.size = gx at *
      go_cut [107] (fun v wx => ∃ bb : Bool, v = .bool bb ∧ Hid (bb = true → er = 0 ∧ ∃ n ∈ ns, ¬ n = 0) ∧ Hid (PSt w (.slice od L.length cd) k s h (.slice (some ⟨gb, 0, none⟩) L.length 2) ns wx) ∧ Hid (DB gx (.slice ox X.length cx) X kk ss hh wx))
      case first =>
        by_cases e0 : er = 0
        · have E0 := Lib.hid e0
          have e0' : (er == 0) = true := by simp [e0]
          clear e0
          go_wp2_with fail
          refine (containsF_any _ ns _ T1.out.n ln2.out).mono ?_
          rintro e w5 ⟨rfl, rfl⟩
          by_cases m0 : ∃ n ∈ ns, ¬ n = 0
          · rw [decide_eq_true m0]
            have M0 := Lib.hid m0
            clear m0
            go_wp2_with fail
            go_meet
            exact ⟨true, rfl, Lib.hid (fun _ => ⟨E0.out, M0.out⟩), T1, K1⟩
          · rw [decide_eq_false m0]
            clear m0
            go_wp2_with fail
            go_meet
            exact ⟨false, rfl, Lib.hid (fun h => by cases h), T1, K1⟩
        · have e0' : (er == 0) = false := by simp [e0]
          clear e0
          go_wp2_with fail
          go_meet
          exact ⟨false, rfl, Lib.hid (fun h => by cases h), T1, K1⟩
      case rest =>
        obtain ⟨bb, rfl, HBB, T2, K2⟩ := hcut
        clear T1 K1
        go_upto_if 107 with (fail)
        go_cut [6] (fun _ wx => Hid (PSt w (.slice od L.length cd) k s h (.slice (some ⟨gb, 0, none⟩) L.length 2) ns wx))
        case first =>
          as_aux_lemma =>
            cases bb
            · go_wp2_with fail
              go_meet
              exact T2
            · obtain ⟨E0', N0'⟩ := HBB.out rfl
              have N0 := Lib.hid N0'
              have XE := Lib.hid (HX.out E0')
              clear N0' E0' HBB HX
              obtain ⟨rfl, rfl, rfl, -⟩ := XE.out
              have XL : Hid (X.length = L.length) := Lib.hid XE.out.2.2.2.1
              have XR := Lib.hid XE.out.2.2.2.2
              have XU := Lib.hid (xt_up SX.out PGH.out XR.out)
              have XC : Hid (dchk X kk ss hh = 0) := Lib.hid (up_dchk (by have := rk.out; have := XL.out; omega) XU.out PL.out)
              have XO : Hid (Ok3 X) := Lib.hid (up_ok XU.out)
              have BO := Lib.hid (both_of XC.out DC.out XL.out)
              clear XE
              have d0 := T2.out.d.c0
              have d1 := T2.out.d.c1
              have d2 := T2.out.d.c2
              have d3 := T2.out.d.c3
              have x0 := K2.out.b.c0
              have x1 := K2.out.b.c1
              have x2 := K2.out.b.c2
              have x3 := K2.out.b.c3
              go_wp2_with fail
              refine (Dinter_any _ X kk ss hh _ L kk ss hh _ K2.out.r XO.out (HR.out.keep T2.out.below) HL.out).mono ?_
              rintro e y1 ⟨yv, k2, s2, h2, er2, rfl, hb, hE2⟩
              obtain ⟨rfl, rfl, rfl, rfl, Y, mY, oY⟩ : er2 = 0 ∧ k2 = kk ∧ s2 = ss ∧ h2 = hh ∧ ∃ Y, Meets X L Y ∧ Rd y1 yv Y := by
                rcases hE2.out with ⟨_, a, b, c, d, Y, m, o⟩ | ⟨n, _⟩
                · exact ⟨a, b, c, d, Y, m, Rd.of_own o⟩
                · exact absurd BO.out n
              have MY := Lib.hid mY
              obtain ⟨oy, cy, rfl, qy⟩ := oY
              have RY : Hid (Rd y1 (.slice oy Y.length cy) Y) := Lib.hid ⟨oy, cy, rfl, qy⟩
              have T3 := Lib.hid (T2.out.keep hb)
              have ZS : Hid (dsiz Y k2 s2 h2 = 0) := Lib.hid (by
                unfold dsiz
                split
                · exact xt_empty SX.out PGH.out XL.out XR.out N0.out MY.out
                · rfl)
              clear hb hE2 mY qy T2 K2 d0 d1 d2 d3 x0 x1 x2 x3
              go_upto_region 14 with fail
              have nb := below_new y1 (.cells #[.slice oy Y.length cy, .int .i64 k2, .int .i64 s2, .int .i64 h2] 62)
              have T4 := Lib.hid (T3.out.keep nb)
              have K4 : Hid (DB y1.heap.size (.slice oy Y.length cy) Y k2 s2 h2 (y1.alloc (.cells #[.slice oy Y.length cy, .int .i64 k2, .int .i64 s2, .int .i64 h2] 62))) := Lib.hid ⟨Blk.new _ _ _ _ _ _, RY.out.keep nb⟩
              clear nb T3 RY
              generalize y1.alloc (.cells #[.slice oy Y.length cy, .int .i64 k2, .int .i64 s2, .int .i64 h2] 62) = y2 at *
              generalize y1.heap.size = gy at *
              have x0 := K4.out.b.c0
              have x1 := K4.out.b.c1
              have x2 := K4.out.b.c2
              have x3 := K4.out.b.c3
              go_wp2_with fail
              refine (Dsize_any _ Y k2 s2 h2 _ K4.out.r (meets_ok MY.out)).mono ?_
              rintro e y3 ⟨rfl, hb⟩
              rw [ZS.out]
              have T5 := Lib.hid (T4.out.keep hb)
              clear hb T4 K4 x0 x1 x2 x3
              go_wp2_with fail
              go_meet
              exact T5
        case rest =>
          have T4 := hcut
          clear hcut T2 K2 HBB HX
          have d0 := T4.out.d.c0
          have d1 := T4.out.d.c1
          have d2 := T4.out.d.c2
          have d3 := T4.out.d.c3
          go_wp2_with fail
          refine (DInterior_any gI PI _ L k s h _ ns _ (HR.out.keep T4.out.below) HL.out T4.out.n OKN.out).mono ?_
          rintro e u7 ⟨rv, kk, ss, hh, er, rfl, hb, _, hE⟩
          obtain ⟨X, rx, HX⟩ := mv_pg hE.out DC.out LN.out
          obtain ⟨ox, cx, rfl, qx⟩ := rx
          have Rx : Hid (Rd u7 (.slice ox X.length cx) X) := Lib.hid ⟨ox, cx, rfl, qx⟩
          have TA := Lib.hid (T4.out.keep hb)
          clear hb hE qx T4 d0 d1 d2 d3
          go_upto_region 17 with fail
          have nb := below_new u7 (.cells #[.slice ox X.length cx, .int .i64 kk, .int .i64 ss, .int .i64 hh] 62)
          have K1 : Hid (DB u7.heap.size (.slice ox X.length cx) X kk ss hh (u7.alloc (.cells #[.slice ox X.length cx, .int .i64 kk, .int .i64 ss, .int .i64 hh] 62))) := Lib.hid ⟨Blk.new _ _ _ _ _ _, Rx.out.keep nb⟩
          have T1 := Lib.hid (TA.out.keep nb)
          clear nb TA Rx
          generalize u7.alloc (.cells #[.slice ox X.length cx, .int .i64 kk, .int .i64 ss, .int .i64 hh] 62) = w7 at *
          generalize u7.heap.size = gx at *
          go_upto_if 128 with (fail)
          go_cut [6] (fun _ wx => Hid (PSt w (.slice od L.length cd) k s h (.slice (some ⟨gb, 0, none⟩) L.length 2) ns wx))
          case first =>
            as_aux_lemma =>
              by_cases e0 : er = 0
              · have e0' : (er == 0) = true := by simp [e0]
                have XE := Lib.hid (HX.out e0)
                clear HX e0
                obtain ⟨rfl, rfl, rfl, -⟩ := XE.out
                have XL : Hid (X.length = L.length) := Lib.hid XE.out.2.2.2.1
                have XR := Lib.hid XE.out.2.2.2.2
                have IF := Lib.hid (in_facts SI.out PGH.out XR.out)
                have XC : Hid (dchk X kk ss hh = 0) := Lib.hid (up_dchk (by have := rk.out; have := XL.out; omega) IF.out.1 PL.out)
                have XO : Hid (Ok3 X) := Lib.hid (up_ok IF.out.1)
                clear XE
                have d0 := T1.out.d.c0
                have d1 := T1.out.d.c1
                have d2 := T1.out.d.c2
                have d3 := T1.out.d.c3
                have x0 := K1.out.b.c0
                have x1 := K1.out.b.c1
                have x2 := K1.out.b.c2
                have x3 := K1.out.b.c3
                go_wp2_with fail
                refine (Dwin_any _ X kk ss hh _ L kk ss hh _ K1.out.r XO.out (HR.out.keep T1.out.below) HL.out).mono ?_
                rintro e y1 ⟨b1, er3, rfl, hb, hE3⟩
                obtain ⟨rfl, rfl⟩ := win_true XC.out DC.out XL.out IF.out.2 hE3
                have T2 := Lib.hid (T1.out.keep hb)
                clear hb hE3 T1 K1 d0 d1 d2 d3 x0 x1 x2 x3
                go_wp2_with fail
                go_meet
                exact T2
              · have e0' : (er == 0) = false := by simp [e0]
                clear e0
                go_wp2_with fail
                go_meet
                exact T1
          case rest =>
            have T5 := hcut
            clear hcut T1 K1 HX
            have d0 := T5.out.d.c0
            have d1 := T5.out.d.c1
            have d2 := T5.out.d.c2
            have d3 := T5.out.d.c3
            go_wp2_with fail
            refine (DTranslate_any gT PT _ L k s h _ ns _ (HR.out.keep T5.out.below) HL.out T5.out.n OKN.out).mono ?_
            rintro e u8 ⟨rv, kk, ss, hh, er, rfl, hb, _, hE⟩
            obtain ⟨X, rx, HX⟩ := mv_pg hE.out DC.out LN.out
            obtain ⟨ox, cx, rfl, qx⟩ := rx
            have Rx : Hid (Rd u8 (.slice ox X.length cx) X) := Lib.hid ⟨ox, cx, rfl, qx⟩
            have TA := Lib.hid (T5.out.keep hb)
            clear hb hE qx T5 d0 d1 d2 d3
            go_upto_region 22 with fail
            have nb := below_new u8 (.cells #[.slice ox X.length cx, .int .i64 kk, .int .i64 ss, .int .i64 hh] 62)
            have K1 : Hid (DB u8.heap.size (.slice ox X.length cx) X kk ss hh (u8.alloc (.cells #[.slice ox X.length cx, .int .i64 kk, .int .i64 ss, .int .i64 hh] 62))) := Lib.hid ⟨Blk.new _ _ _ _ _ _, Rx.out.keep nb⟩
            have T1 := Lib.hid (TA.out.keep nb)
            clear nb TA Rx
            generalize u8.alloc (.cells #[.slice ox X.length cx, .int .i64 kk, .int .i64 ss, .int .i64 hh] 62) = w8 at *
            generalize u8.heap.size = gx at *
            by_cases e0 : er = 0
            · have e0' : (er != 0) = false := by simp [e0]
              have XE := Lib.hid (HX.out e0)
              clear HX e0
              obtain ⟨rfl, rfl, rfl, -⟩ := XE.out
              have XL : Hid (X.length = L.length) := Lib.hid XE.out.2.2.2.1
              have XR := Lib.hid XE.out.2.2.2.2
              have XP := Lib.hid (tr_pg ST.out PGH.out XL.out XR.out)
              have XC : Hid (dchk X kk ss hh = 0) := Lib.hid (up_dchk (by have := rk.out; have := XL.out; omega) XP.out.up PL.out)
              have XO : Hid (Ok3 X) := Lib.hid (up_ok XP.out.up)
              have XZ := Lib.hid (tr_prod ST.out PGH.out XL.out XR.out)
              clear XE
              have d0 := T1.out.d.c0
              have d1 := T1.out.d.c1
              have d2 := T1.out.d.c2
              have d3 := T1.out.d.c3
              go_wp2_with fail
              refine (Dsize_any _ L kk ss hh _ (HR.out.keep T1.out.below) HL.out).mono ?_
              rintro e y1 ⟨rfl, hb⟩
              rw [EZ.out]
              have T2 := Lib.hid (T1.out.keep hb)
              have K2 := Lib.hid (K1.out.keep hb)
              clear hb T1 K1 d0 d1 d2 d3 e0'
              obtain ⟨pn, hpn⟩ : ∃ pn : Nat, (pn : Int) = prodL L := ⟨(prodL L).toNat, by have := PZ.out; omega⟩
              have PN := Lib.hid hpn
              rw [← hpn]
              clear hpn
              go_wp2_with fail
              go_loopg [25, 26, 27, 28, 29, 30, 31, 152, 187, 188, 189] (pn + 1) (fun gh _ _ _ _ _ _ _ v152 _ _ _ wr => ∃ j : Nat, v152 = .int .i64 j ∧ (j ≤ pn ∧ pn - j < gh) ∧ Hid (PSt w (.slice od L.length cd) kk ss hh (.slice (some ⟨gb, 0, none⟩) L.length 2) ns wr) ∧ Hid (DB gx (.slice ox X.length cx) X kk ss hh wr))
              case atStart => exact ⟨0, rfl, ⟨by omega, by omega⟩, T2, K2⟩
              case round =>
                as_aux_lemma =>
                  obtain ⟨j, rfl, ⟨j0, jg⟩, T3, K3⟩ := hrel
                  have KG := Lib.hid jg
                  clear jg
                  have pnb : (pn : Int) ≤ 500 := by have := PN.out; have := PZ.out; omega
                  by_cases hj : j < pn
                  · have jw : IntKind.i64.wrap ((j : Int) + 1) = (j : Int) + 1 := IntWalk.i64_in _ (by omega)
                    have J1 : Hid ((0 : Int) ≤ j ∧ (j : Int) < prodL L) := Lib.hid (by have := PN.out; omega)
                    have d0 := T3.out.d.c0
                    have d1 := T3.out.d.c1
                    have d2 := T3.out.d.c2
                    have d3 := T3.out.d.c3
                    go_wp2_with fail
                    refine (Dnth_any _ L kk ss hh j _ (HR.out.keep T3.out.below) HL.out).mono ?_
                    rintro e y2 ⟨yv, er1, rfl, hb, hE1⟩
                    obtain ⟨rfl, ry⟩ : er1 = 0 ∧ Ri y2 yv (idxL L j) := by
                      obtain ⟨a, b⟩ := hE1.out
                      have z : dnthE L kk ss hh j = 0 := by unfold dnthE; rw [if_pos DC.out, if_pos J1.out]
                      rcases b with ⟨c, o⟩ | ⟨c, _⟩
                      · exact ⟨c, Ri.of_own o⟩
                      · exact absurd (a.trans z) c
                    obtain ⟨oy, cy, rfl, qy⟩ := ry
                    have RY : Hid (Ri y2 (.slice oy (idxL L j).length cy) (idxL L j)) := Lib.hid ⟨oy, cy, rfl, qy⟩
                    have T4 := Lib.hid (T3.out.keep hb)
                    have K4 := Lib.hid (K3.out.keep hb)
                    clear hb hE1 qy T3 K3 d0 d1 d2 d3
                    have x0 := K4.out.b.c0
                    have x1 := K4.out.b.c1
                    have x2 := K4.out.b.c2
                    have x3 := K4.out.b.c3
                    go_wp2_with fail
                    refine (Dnth_any _ X kk ss hh j _ K4.out.r XO.out).mono ?_
                    rintro e y3 ⟨zv, er2, rfl, hb, hE2⟩
                    obtain ⟨rfl, rz⟩ : er2 = 0 ∧ Ri y3 zv (idxL X j) := by
                      obtain ⟨a, b⟩ := hE2.out
                      have z : dnthE X kk ss hh j = 0 := by unfold dnthE; rw [if_pos XC.out, XZ.out, if_pos J1.out]
                      rcases b with ⟨c, o⟩ | ⟨c, _⟩
                      · exact ⟨c, Ri.of_own o⟩
                      · exact absurd (a.trans z) c
                    obtain ⟨oz, cz, rfl, qz⟩ := rz
                    have RZ : Hid (Ri y3 (.slice oz (idxL X j).length cz) (idxL X j)) := Lib.hid ⟨oz, cz, rfl, qz⟩
                    have T5 := Lib.hid (T4.out.keep hb)
                    have K5 := Lib.hid (K4.out.keep hb)
                    have RY5 := Lib.hid (RY.out.keep hb)
                    clear hb hE2 qz T4 K4 RY x0 x1 x2 x3
                    have l1 : Hid ((idxL L j).length = L.length) := Lib.hid (idxL_len L j)
                    have l2 : Hid ((idxL X j).length = L.length) := Lib.hid ((idxL_len X j).trans XL.out)
                    rw [l1.out, l2.out]
                    have RY6 := RY5.out
                    have RZ6 := RZ.out
                    rw [l1.out] at RY6
                    rw [l2.out] at RZ6
                    have RY6 := Lib.hid RY6
                    have RZ6 := Lib.hid RZ6
                    clear RY5 RZ
                    have TI : Hid (∀ (i : Nat) (a n : Int), (idxL L j)[i]? = some a → ns[i]? = some n → (idxL X j)[i]? = some (a + n) ∧ -1000000 ≤ a + n ∧ a + n ≤ 1000000) := Lib.hid (fun i a n ha hn => by
                      have z := tr_idx ST.out PGH.out XL.out XR.out J1.out.1 J1.out.2 ha hn
                      exact ⟨z, idx_bd (by have := rk.out; have := XL.out; omega) XP.out.up (List.mem_of_getElem? z)⟩)
                    generalize idxL L j = ys at *
                    generalize idxL X j = zs at *
                    go_wp2_with fail
                    go_loopg [30, 31, 189] (L.length + 1) (fun gh _ _ v189 wr => ∃ i : Nat, v189 = .int .i64 i ∧ (i ≤ L.length ∧ L.length - i < gh) ∧ Hid (PSt w (.slice od L.length cd) kk ss hh (.slice (some ⟨gb, 0, none⟩) L.length 2) ns wr) ∧ Hid (DB gx (.slice ox X.length cx) X kk ss hh wr) ∧ Hid (Ri wr (.slice oy L.length cy) ys) ∧ Hid (Ri wr (.slice oz L.length cz) zs))
                    case atStart => exact ⟨0, rfl, ⟨by omega, by omega⟩, T5, K5, RY6, RZ6⟩
                    case round =>
                      clear T5 K5 RY6 RZ6
                      obtain ⟨i, rfl, ⟨i0, ig⟩, T6, K6, RY6, RZ6⟩ := hrel
                      have KG2 := Lib.hid ig
                      clear ig
                      by_cases hi : i < L.length
                      · have iw : IntKind.i64.wrap ((i : Int) + 1) = (i : Int) + 1 := IntWalk.i64_in _ (by omega)
                        obtain ⟨n, hn⟩ : ∃ n, ns[i]? = some n := ⟨ns[i]'(by have := LN.out; omega), List.getElem?_eq_getElem _⟩
                        obtain ⟨y, hy⟩ : ∃ y, ys[i]? = some y := ⟨ys[i]'(by have := l1.out; omega), List.getElem?_eq_getElem _⟩
                        obtain ⟨hz, z1, z2⟩ := TI.out i y n hy hn
                        have zw : IntKind.i64.wrap (y + n) = y + n := IntWalk.i64_in _ (by omega)
                        obtain ⟨_, _, en, zn, q0⟩ := T6.out.n.at hn
                        cases en
                        rw [Nat.zero_add] at q0
                        obtain ⟨by_, fy, rfl, zy, qy⟩ := RY6.out.at hy
                        obtain ⟨bz, fz, rfl, zz, qz⟩ := RZ6.out.at hz
                        have P1 := Lib.hid qz
                        have P2 := Lib.hid qy
                        clear hn hy hz qy qz z1 z2
                        go_upto_region 34 with fail
                        clear q0 zn
                        refine wp_region_held_drew (S := (fun w' => Below wr.heap.size wr w')) (by kernel_rfl) (to_drew (Below.refl _ _)) (fun hHeld => ?_)
                        obtain ⟨v0, hv0⟩ : ∃ v0, v0 = wr.drew := ⟨_, rfl⟩
                        rw [← hv0] at hHeld ⊢
                        clear hv0
                        refine wpAnyH_take (i := 0) (oi := { dst := some 194, op := Op.move (Operand.tmp 28), type := 48, pos := "outright.go:142", after := #[], guard := none }) (v := ?_) rfl (by kernel_rfl) (by kernel_rfl) (by kernel_rfl) (fun _ _ _ h => h) (Or.inl ⟨by rfl, ?_⟩) (by assumption) ?_
                        rotate_left
                        · (intro wq hSw; (try dsimp only at hSw); have p1 := (hSw.cell (p := ⟨bz, fz + i, none⟩) zz).trans P1.out; have p2 := (hSw.cell (p := ⟨by_, fy + i, none⟩) zy).trans P2.out; clear hSw; go_simp; first | done | with_reducible rfl)
                        try simp only [Act.put, List.setIfInBounds_toArray, List.set_cons_zero, List.set_cons_succ]
                        refine wpAnyH_take (i := 1) (oi := { dst := some 195, op := Op.move (Operand.tmp 30), type := 3, pos := "outright.go:142", after := #[], guard := none }) (v := ?_) rfl (by kernel_rfl) (by kernel_rfl) (by kernel_rfl) (fun _ _ _ h => h) (Or.inl ⟨by rfl, ?_⟩) (by assumption) ?_
                        rotate_left
                        · (intro wq hSw; (try dsimp only at hSw); have p1 := (hSw.cell (p := ⟨bz, fz + i, none⟩) zz).trans P1.out; have p2 := (hSw.cell (p := ⟨by_, fy + i, none⟩) zy).trans P2.out; clear hSw; go_simp; first | done | with_reducible rfl)
                        try simp only [Act.put, List.setIfInBounds_toArray, List.set_cons_zero, List.set_cons_succ]
                        refine wpAnyH_take (i := 2) (oi := { dst := some 196, op := Op.indexAddr 48 (Operand.tmp 194) (Operand.tmp 195), type := 0, pos := "outright.go:142", after := #[{ on := 0, ground := Ground.data }, { on := 1, ground := Ground.data }], guard := none }) (v := ?_) rfl (by kernel_rfl) (by kernel_rfl) (by kernel_rfl) (fun _ _ _ h => h) (Or.inl ⟨by rfl, ?_⟩) (by assumption) ?_
                        rotate_left
                        · (intro wq hSw; (try dsimp only at hSw); have p1 := (hSw.cell (p := ⟨bz, fz + i, none⟩) zz).trans P1.out; have p2 := (hSw.cell (p := ⟨by_, fy + i, none⟩) zy).trans P2.out; clear hSw; go_simp; first | done | with_reducible rfl)
                        try simp only [Act.put, List.setIfInBounds_toArray, List.set_cons_zero, List.set_cons_succ]
                        refine wpAnyH_take (i := 3) (oi := { dst := some 197, op := Op.load 3 (Operand.tmp 196), type := 3, pos := "outright.go:142", after := #[{ on := 2, ground := Ground.data }], guard := none }) (v := ?_) rfl (by kernel_rfl) (by kernel_rfl) (by kernel_rfl) (fun _ _ _ h => h) (Or.inl ⟨by rfl, ?_⟩) (by assumption) ?_
                        rotate_left
                        · (intro wq hSw; (try dsimp only at hSw); have p1 := (hSw.cell (p := ⟨bz, fz + i, none⟩) zz).trans P1.out; have p2 := (hSw.cell (p := ⟨by_, fy + i, none⟩) zy).trans P2.out; clear hSw; go_simp; first | done | with_reducible rfl)
                        try simp only [Act.put, List.setIfInBounds_toArray, List.set_cons_zero, List.set_cons_succ]
                        refine wpAnyH_take (i := 4) (oi := { dst := some 198, op := Op.move (Operand.tmp 26), type := 48, pos := "outright.go:142", after := #[], guard := none }) (v := ?_) rfl (by kernel_rfl) (by kernel_rfl) (by kernel_rfl) (fun _ _ _ h => h) (Or.inl ⟨by rfl, ?_⟩) (by assumption) ?_
                        rotate_left
                        · (intro wq hSw; (try dsimp only at hSw); have p1 := (hSw.cell (p := ⟨bz, fz + i, none⟩) zz).trans P1.out; have p2 := (hSw.cell (p := ⟨by_, fy + i, none⟩) zy).trans P2.out; clear hSw; go_simp; first | done | with_reducible rfl)
                        try simp only [Act.put, List.setIfInBounds_toArray, List.set_cons_zero, List.set_cons_succ]
                        refine wpAnyH_take (i := 5) (oi := { dst := some 199, op := Op.move (Operand.tmp 30), type := 3, pos := "outright.go:142", after := #[], guard := none }) (v := ?_) rfl (by kernel_rfl) (by kernel_rfl) (by kernel_rfl) (fun _ _ _ h => h) (Or.inl ⟨by rfl, ?_⟩) (by assumption) ?_
                        rotate_left
                        · (intro wq hSw; (try dsimp only at hSw); have p1 := (hSw.cell (p := ⟨bz, fz + i, none⟩) zz).trans P1.out; have p2 := (hSw.cell (p := ⟨by_, fy + i, none⟩) zy).trans P2.out; clear hSw; go_simp; first | done | with_reducible rfl)
                        try simp only [Act.put, List.setIfInBounds_toArray, List.set_cons_zero, List.set_cons_succ]
                        refine wpAnyH_take (i := 6) (oi := { dst := some 200, op := Op.indexAddr 48 (Operand.tmp 198) (Operand.tmp 199), type := 0, pos := "outright.go:142", after := #[{ on := 4, ground := Ground.data }, { on := 5, ground := Ground.data }], guard := none }) (v := ?_) rfl (by kernel_rfl) (by kernel_rfl) (by kernel_rfl) (fun _ _ _ h => h) (Or.inl ⟨by rfl, ?_⟩) (by assumption) ?_
                        rotate_left
                        · (intro wq hSw; (try dsimp only at hSw); have p1 := (hSw.cell (p := ⟨bz, fz + i, none⟩) zz).trans P1.out; have p2 := (hSw.cell (p := ⟨by_, fy + i, none⟩) zy).trans P2.out; clear hSw; go_simp; first | done | with_reducible rfl)
                        try simp only [Act.put, List.setIfInBounds_toArray, List.set_cons_zero, List.set_cons_succ]
                        refine wpAnyH_take (i := 7) (oi := { dst := some 201, op := Op.load 3 (Operand.tmp 200), type := 3, pos := "outright.go:142", after := #[{ on := 6, ground := Ground.data }], guard := none }) (v := ?_) rfl (by kernel_rfl) (by kernel_rfl) (by kernel_rfl) (fun _ _ _ h => h) (Or.inl ⟨by rfl, ?_⟩) (by assumption) ?_
                        rotate_left
                        · (intro wq hSw; (try dsimp only at hSw); have p1 := (hSw.cell (p := ⟨bz, fz + i, none⟩) zz).trans P1.out; have p2 := (hSw.cell (p := ⟨by_, fy + i, none⟩) zy).trans P2.out; clear hSw; go_simp; first | done | with_reducible rfl)
                        try simp only [Act.put, List.setIfInBounds_toArray, List.set_cons_zero, List.set_cons_succ]
                        refine wpAnyH_take (i := 8) (oi := { dst := some 202, op := Op.move (Operand.tmp 31), type := 3, pos := "outright.go:142", after := #[], guard := none }) (v := ?_) rfl (by kernel_rfl) (by kernel_rfl) (by kernel_rfl) (fun _ _ _ h => h) (Or.inl ⟨by rfl, ?_⟩) (by assumption) ?_
                        rotate_left
                        · (intro wq hSw; (try dsimp only at hSw); have p1 := (hSw.cell (p := ⟨bz, fz + i, none⟩) zz).trans P1.out; have p2 := (hSw.cell (p := ⟨by_, fy + i, none⟩) zy).trans P2.out; clear hSw; go_simp; first | done | with_reducible rfl)
                        try simp only [Act.put, List.setIfInBounds_toArray, List.set_cons_zero, List.set_cons_succ]
                        refine wpAnyH_take (i := 9) (oi := { dst := some 203, op := Op.binOp BinOp.add 3 (Operand.tmp 201) (Operand.tmp 202) 3, type := 3, pos := "outright.go:142", after := #[{ on := 7, ground := Ground.data }, { on := 8, ground := Ground.data }], guard := none }) (v := ?_) rfl (by kernel_rfl) (by kernel_rfl) (by kernel_rfl) (fun _ _ _ h => h) (Or.inl ⟨by rfl, ?_⟩) (by assumption) ?_
                        rotate_left
                        · (intro wq hSw; (try dsimp only at hSw); have p1 := (hSw.cell (p := ⟨bz, fz + i, none⟩) zz).trans P1.out; have p2 := (hSw.cell (p := ⟨by_, fy + i, none⟩) zy).trans P2.out; clear hSw; go_simp; first | done | with_reducible rfl)
                        try simp only [Act.put, List.setIfInBounds_toArray, List.set_cons_zero, List.set_cons_succ]
                        refine wpAnyH_take (i := 10) (oi := { dst := some 204, op := Op.binOp BinOp.neq 3 (Operand.tmp 197) (Operand.tmp 203) 3, type := 4, pos := "outright.go:142", after := #[{ on := 3, ground := Ground.data }, { on := 9, ground := Ground.data }], guard := none }) (v := ?_) rfl (by kernel_rfl) (by kernel_rfl) (by kernel_rfl) (fun _ _ _ h => h) (Or.inl ⟨by rfl, ?_⟩) (by assumption) ?_
                        rotate_left
                        · (intro wq hSw; (try dsimp only at hSw); have p1 := (hSw.cell (p := ⟨bz, fz + i, none⟩) zz).trans P1.out; have p2 := (hSw.cell (p := ⟨by_, fy + i, none⟩) zy).trans P2.out; clear hSw; go_simp; first | done | with_reducible rfl)
                        try simp only [Act.put, List.setIfInBounds_toArray, List.set_cons_zero, List.set_cons_succ]
                        refine wpAnyH_done (by kernel_rfl) ?_ _
                        have T7 := Lib.hid (T6.out.keep hHeld)
                        have K7 := Lib.hid (K6.out.keep hHeld)
                        have RY7 := Lib.hid (RY6.out.keep hHeld)
                        have RZ7 := Lib.hid (RZ6.out.keep hHeld)
                        clear hHeld T6 K6 RY6 RZ6 P1 P2
                        go_wp2_with fail
                        go_roundg (L.length - i)
                        case measure => exact KG2.out
                        case rel => exact ⟨i + 1, by go_num, ⟨by omega, by omega⟩, T7, K7, RY7, RZ7⟩
                      · clear RY6 RZ6
                        go_wp2_with fail
                        go_roundg (pn - j)
                        case measure => exact KG.out
                        case rel => exact ⟨j + 1, by go_num, ⟨by omega, by omega⟩, T6, K6⟩
                  · clear KG
                    as_aux_lemma =>
                      go_upto_region 38 with fail
                      have OKM : Hid (Ok1 (negs ns)) := Lib.hid (fun m hm => by
                        have := XP.out.sm m hm
                        unfold I64; omega)
                      refine wp_region_held_drew (S := (fun w' => Below wr.heap.size wr w')) (by kernel_rfl) (to_drew (Below.refl _ _)) (fun hHeld => ?_)
                      obtain ⟨v0, hv0⟩ : ∃ v0, v0 = wr.drew := ⟨_, rfl⟩
                      rw [← hv0] at hHeld ⊢
                      clear hv0
                      refine wpAnyH_take (i := 0) (oi := { dst := some 208, op := Op.load 62 (Operand.tmp 23), type := 62, pos := "outright.go:147", after := #[], guard := none }) (v := ?_) rfl (by kernel_rfl) (by kernel_rfl) (by kernel_rfl) (fun _ _ _ h => h) (Or.inl ⟨by rfl, ?_⟩) (by assumption) ?_
                      rotate_left
                      · (intro wq hSw; (try dsimp only at hSw); have K := K3.out.keep hSw; have c0 := K.b.c0; have c1 := K.b.c1; have c2 := K.b.c2; have c3 := K.b.c3; clear K; clear hSw; go_simp; first | done | with_reducible rfl)
                      try simp only [Act.put, List.setIfInBounds_toArray, List.set_cons_zero, List.set_cons_succ]
                      refine wpAnyH_take (i := 1) (oi := { dst := some 209, op := Op.move (Operand.tmp 8), type := 93, pos := "outright.go:147", after := #[], guard := none }) (v := ?_) rfl (by kernel_rfl) (by kernel_rfl) (by kernel_rfl) (fun _ _ _ h => h) (Or.inl ⟨by rfl, ?_⟩) (by assumption) ?_
                      rotate_left
                      · (intro wq hSw; (try dsimp only at hSw); have K := K3.out.keep hSw; have c0 := K.b.c0; have c1 := K.b.c1; have c2 := K.b.c2; have c3 := K.b.c3; clear K; clear hSw; go_simp; first | done | with_reducible rfl)
                      try simp only [Act.put, List.setIfInBounds_toArray, List.set_cons_zero, List.set_cons_succ]
                      refine wpAnyH_take (i := 2) (oi := { dst := some 210, op := Op.move (Operand.tmp 7), type := 48, pos := "outright.go:147", after := #[], guard := none }) (v := ?_) rfl (by kernel_rfl) (by kernel_rfl) (by kernel_rfl) (fun _ _ _ h => h) (Or.inl ⟨by rfl, ?_⟩) (by assumption) ?_
                      rotate_left
                      · (intro wq hSw; (try dsimp only at hSw); have K := K3.out.keep hSw; have c0 := K.b.c0; have c1 := K.b.c1; have c2 := K.b.c2; have c3 := K.b.c3; clear K; clear hSw; go_simp; first | done | with_reducible rfl)
                      try simp only [Act.put, List.setIfInBounds_toArray, List.set_cons_zero, List.set_cons_succ]
                      refine wpAnyH_ready (rs := [3, 8]) (by kernel_rfl) (by simp) ?_
                      refine AllReadyH.cons (o := { dst := some 211, op := Op.call { callee := Callee.value (Operand.tmp 209), args := #[Operand.tmp 210], argTypes := #[48] }, type := 48, pos := "outright.go:147", after := #[{ on := 1, ground := Ground.data }, { on := 2, ground := Ground.data }], guard := none }) rfl (fun K hK => ?_) ?_
                      · go_simp
                        refine (minus_any _ ns _ (T3.out.keep hHeld).n BN.out ln2.out).mono ?_
                        rintro e v1 ⟨mv, rfl, hq, Rm⟩
                        have hq : Below v0.heap.size v0 v1 := ⟨hq.os, hq.tape, hq.output, hq.size, hq.block⟩
                        obtain ⟨om, cm, rfl, qm⟩ := Rm
                        have Rm : Ri v1 (.slice om (negs ns).length cm) (negs ns) := ⟨om, cm, rfl, qm⟩
                        clear qm
                        have hS := hHeld.trans (hq.mono hHeld.size)
                        go_wp2_with fail
                        refine hK.out _ _ hS (fun hHeld => ?_)
                        clear hK K hHeld
                        clear hq
                        have hHeld := hS
                        clear hS
                        try simp only [Act.put, List.setIfInBounds_toArray, List.set_cons_zero, List.set_cons_succ]
                        refine wpAnyH_ready (rs := [4, 8]) (by kernel_rfl) (by simp) ?_
                        refine AllReadyH.cons (o := { dst := some 212, op := Op.call { callee := Callee.value (Operand.func 74), args := #[Operand.tmp 208, Operand.tmp 211], argTypes := #[62, 48] }, type := 63, pos := "outright.go:147", after := #[{ on := 0, ground := Ground.data }, { on := 3, ground := Ground.data }, { on := 3, ground := Ground.chain }], guard := none }) rfl (fun K hK => ?_) ?_
                        · go_simp
                          refine (DTranslate_any gT PT _ X kk ss hh _ (negs ns) _ (K3.out.keep hHeld).r XO.out Rm OKM.out).mono ?_
                          rintro e v2 ⟨yv, k2, s2, h2, er2, rfl, hq, _, hE2⟩
                          have hq : Below v1.heap.size v1 v2 := ⟨hq.os, hq.tape, hq.output, hq.size, hq.block⟩
                          have Rm := Rm.keep hq
                          obtain ⟨z1, z2, z3, z4, OY⟩ := tr_ret ST.out PGH.out XL.out XR.out hE2.out XC.out
                          subst z1 z2 z3 z4
                          obtain ⟨oy, cy, rfl⟩ := owns_slice OY
                          have hS := hHeld.trans (hq.mono hHeld.size)
                          go_wp2_with fail
                          refine hK.out _ _ hS (fun hHeld => ?_)
                          clear hK K hHeld
                          clear hq hE2
                          have hHeld := hS
                          clear hS
                          try simp only [Act.put, List.setIfInBounds_toArray, List.set_cons_zero, List.set_cons_succ]
                          refine wpAnyH_take (i := 5) (oi := { dst := some 207, op := Op.move (Operand.tmp 212), type := 63, pos := "outright.go:147", after := #[{ on := 4, ground := Ground.data }], guard := none }) (v := ?_) rfl (by kernel_rfl) (by kernel_rfl) (by kernel_rfl) (fun _ _ _ h => h) (Or.inl ⟨by rfl, ?_⟩) (by assumption) ?_
                          rotate_left
                          · (intro wq hSw; (try dsimp only at hSw); have K := K3.out.keep hSw; have c0 := K.b.c0; have c1 := K.b.c1; have c2 := K.b.c2; have c3 := K.b.c3; clear K; clear hSw; go_simp; first | done | with_reducible rfl)
                          try simp only [Act.put, List.setIfInBounds_toArray, List.set_cons_zero, List.set_cons_succ]
                          refine wpAnyH_take (i := 6) (oi := { dst := some 213, op := Op.extract (Operand.tmp 207) 0, type := 62, pos := "outright.go:147", after := #[{ on := 5, ground := Ground.data }], guard := none }) (v := ?_) rfl (by kernel_rfl) (by kernel_rfl) (by kernel_rfl) (fun _ _ _ h => h) (Or.inl ⟨by rfl, ?_⟩) (by assumption) ?_
                          rotate_left
                          · (intro wq hSw; (try dsimp only at hSw); have K := K3.out.keep hSw; have c0 := K.b.c0; have c1 := K.b.c1; have c2 := K.b.c2; have c3 := K.b.c3; clear K; clear hSw; go_simp; first | done | with_reducible rfl)
                          try simp only [Act.put, List.setIfInBounds_toArray, List.set_cons_zero, List.set_cons_succ]
                          refine wpAnyH_take (i := 7) (oi := { dst := some 214, op := Op.extract (Operand.tmp 207) 1, type := 24, pos := "outright.go:147", after := #[{ on := 5, ground := Ground.data }, { on := 9, ground := Ground.gcOnly Departure.lateStores }], guard := none }) (v := ?_) rfl (by kernel_rfl) (by kernel_rfl) (by kernel_rfl) (fun _ _ _ h => h) (Or.inl ⟨by rfl, ?_⟩) (by assumption) ?_
                          rotate_left
                          · (intro wq hSw; (try dsimp only at hSw); have K := K3.out.keep hSw; have c0 := K.b.c0; have c1 := K.b.c1; have c2 := K.b.c2; have c3 := K.b.c3; clear K; clear hSw; go_simp; first | done | with_reducible rfl)
                          try simp only [Act.put, List.setIfInBounds_toArray, List.set_cons_zero, List.set_cons_succ]
                          refine wpAnyH_ready (rs := [8]) (by kernel_rfl) (by simp) ?_
                          refine AllReadyH.cons (o := { dst := some 32, op := Op.alloc 62, type := 0, pos := "outright.go:147", after := #[], guard := none }) rfl (fun K hK => ?_) AllReadyH.nil
                          go_simp
                          have nb := below_new v2 (.cells #[.slice none 0 0, .int .i64 0, .int .i64 0, .int .i64 0] 62)
                          have PB := fun g hg => (OY.lt g hg).2
                          have Rm := Rm.keep nb
                          have OY := owns_below OY nb
                          have Zb := Blk.new (.slice none 0 0) (.int .i64 0) (.int .i64 0) (.int .i64 0) 62 v2
                          have hS := hHeld.trans (nb.mono hHeld.size)
                          have ZB : wr.heap.size ≤ v2.heap.size := hHeld.size
                          refine hK.out _ _ hS (fun hHeld => ?_)
                          clear hK K hHeld
                          clear nb
                          generalize v2.alloc (.cells #[.slice none 0 0, .int .i64 0, .int .i64 0, .int .i64 0] 62) = v3 at *
                          generalize v2.heap.size = bk at *
                          have hHeld := hS
                          clear hS
                          try simp only [Act.put, List.setIfInBounds_toArray, List.set_cons_zero, List.set_cons_succ]
                          refine wpAnyH_ready (rs := [9]) (by kernel_rfl) (by simp) ?_
                          refine AllReadyH.cons (o := { dst := none, op := Op.store 62 (Operand.tmp 32) (Operand.tmp 213), type := 0, pos := "outright.go:147", after := #[{ on := 8, ground := Ground.data }, { on := 6, ground := Ground.data }, { on := 4, ground := Ground.chain }, { on := 0, ground := Ground.phase }, { on := 1, ground := Ground.phase }, { on := 2, ground := Ground.phase }, { on := 3, ground := Ground.phase }, { on := 4, ground := Ground.phase }, { on := 5, ground := Ground.phase }, { on := 6, ground := Ground.phase }, { on := 7, ground := Ground.textOnly Departure.lateStores }, { on := 8, ground := Ground.phase }], guard := none }) rfl (fun K hK => ?_) AllReadyH.nil
                          go_simp
                          have c0 := Zb.c0
                          have c1 := Zb.c1
                          have c2 := Zb.c2
                          have d3 := Zb.c3
                          have f0 := Zb.f0
                          have f1 := Zb.f1
                          have f2 := Zb.f2
                          have f3 := Zb.f3
                          go_simp
                          have hS := hHeld.trans (set4_below ZB (.slice oy L.length cy) (.int .i64 k2) (.int .i64 s2) (.int .i64 h2))
                          have Zb := Zb.set (.slice oy L.length cy) (.int .i64 k2) (.int .i64 s2) (.int .i64 h2)
                          have OY := owns_under OY (set4_below (Nat.le_refl bk) (.slice oy L.length cy) (.int .i64 k2) (.int .i64 s2) (.int .i64 h2)) PB
                          refine hK.out _ _ hS (fun hHeld => ?_)
                          clear hK K hHeld
                          clear c0 c1 c2 d3 f0 f1 f2 f3
                          change wpAnyH _ _ _ _ _ _ _ _ (set4 v3 bk (.slice oy L.length cy) (.int .i64 k2) (.int .i64 s2) (.int .i64 h2))
                          generalize set4 v3 bk (.slice oy L.length cy) (.int .i64 k2) (.int .i64 s2) (.int .i64 h2) = v4 at *
                          have hHeld := hS
                          clear hS
                          try simp only [Act.put, List.setIfInBounds_toArray, List.set_cons_zero, List.set_cons_succ]
                          refine wpAnyH_take (i := 10) (oi := { dst := some 24, op := Op.assign (Operand.tmp 214), type := 24, pos := "outright.go:147", after := #[{ on := 7, ground := Ground.data }, { on := 9, ground := Ground.chain }, { on := 0, ground := Ground.phase }, { on := 1, ground := Ground.phase }, { on := 2, ground := Ground.phase }, { on := 3, ground := Ground.phase }, { on := 4, ground := Ground.phase }, { on := 5, ground := Ground.phase }, { on := 6, ground := Ground.phase }, { on := 7, ground := Ground.phase }, { on := 8, ground := Ground.phase }, { on := 9, ground := Ground.phase }], guard := none }) (v := ?_) rfl (by kernel_rfl) (by kernel_rfl) (by kernel_rfl) (fun _ _ _ h => h) (Or.inl ⟨by rfl, ?_⟩) (by assumption) ?_
                          rotate_left
                          · (intro wq hSw; (try dsimp only at hSw); have K := K3.out.keep hSw; have c0 := K.b.c0; have c1 := K.b.c1; have c2 := K.b.c2; have c3 := K.b.c3; clear K; clear hSw; go_simp; first | done | with_reducible rfl)
                          try simp only [Act.put, List.setIfInBounds_toArray, List.set_cons_zero, List.set_cons_succ]
                          refine wpAnyH_done (by kernel_rfl) ?_ _
                          have TB3 := Lib.hid (T3.out.keep hHeld)
                          have KB3 := Lib.hid (K3.out.keep hHeld)
                          have ZB3 := Lib.hid Zb
                          have RY3 := Lib.hid (Rd.of_own OY)
                          clear hHeld Zb OY Rm PB ZB
                          have d0 := TB3.out.d.c0
                          have d1 := TB3.out.d.c1
                          have d2 := TB3.out.d.c2
                          have d3 := TB3.out.d.c3
                          have T4 := TB3
                          have ZB4 := ZB3
                          have RY4 := RY3
                          clear TB3 KB3 ZB3 RY3
                          have q0 := ZB4.out.c0
                          have q1 := ZB4.out.c1
                          have q2 := ZB4.out.c2
                          have q3 := ZB4.out.c3
                          go_wp2_with fail
                          refine (Dsame_any _ L k2 s2 h2 _ L k2 s2 h2 _ RY4.out HL.out (HR.out.keep T4.out.below) HL.out).mono ?_
                          rintro e y2 ⟨rfl, hb⟩
                          rw [same_true DC.out]
                          have T5 := Lib.hid (T4.out.keep hb)
                          clear hb T4 ZB4 RY4 d0 d1 d2 d3 q0 q1 q2 q3
                          go_wp2_with fail
                          refine (awake2_any _).mono ?_
                          rintro e y3 ⟨rfl, hb⟩
                          have B := Lib.hid (T5.out.below.trans (hb.mono T5.out.below.size))
                          clear hb T5
                          go_wp2
                          exact bodyPost_ret (v := .bool true) (by simp [results, Try.results16, go_sem, *]) rfl ⟨rfl, B.out⟩
                        refine AllReadyH.cons (o := { dst := some 32, op := Op.alloc 62, type := 0, pos := "outright.go:147", after := #[], guard := none }) rfl (fun K hK => ?_) ?_
                        · go_simp
                          have nb := below_new v1 (.cells #[.slice none 0 0, .int .i64 0, .int .i64 0, .int .i64 0] 62)
                          have Rm := Rm.keep nb
                          have Zb := Blk.new (.slice none 0 0) (.int .i64 0) (.int .i64 0) (.int .i64 0) 62 v1
                          have hS := hHeld.trans (nb.mono hHeld.size)
                          have ZB : wr.heap.size ≤ v1.heap.size := hHeld.size
                          refine hK.out _ _ hS (fun hHeld => ?_)
                          clear hK K hHeld
                          clear nb
                          generalize v1.alloc (.cells #[.slice none 0 0, .int .i64 0, .int .i64 0, .int .i64 0] 62) = v5 at *
                          generalize v1.heap.size = bk at *
                          have hHeld := hS
                          clear hS
                          try simp only [Act.put, List.setIfInBounds_toArray, List.set_cons_zero, List.set_cons_succ]
                          refine wpAnyH_ready (rs := [4]) (by kernel_rfl) (by simp) ?_
                          refine AllReadyH.cons (o := { dst := some 212, op := Op.call { callee := Callee.value (Operand.func 74), args := #[Operand.tmp 208, Operand.tmp 211], argTypes := #[62, 48] }, type := 63, pos := "outright.go:147", after := #[{ on := 0, ground := Ground.data }, { on := 3, ground := Ground.data }, { on := 3, ground := Ground.chain }], guard := none }) rfl (fun K hK => ?_) AllReadyH.nil
                          go_simp
                          have PB : bk < v5.heap.size := Zb.size
                          refine (DTranslate_any gT PT _ X kk ss hh _ (negs ns) _ (K3.out.keep hHeld).r XO.out Rm OKM.out).mono ?_
                          rintro e v6 ⟨yv, k2, s2, h2, er2, rfl, hq, _, hE2⟩
                          have hq : Below v5.heap.size v5 v6 := ⟨hq.os, hq.tape, hq.output, hq.size, hq.block⟩
                          have Rm := Rm.keep hq
                          have Zb := Zb.keep hq
                          obtain ⟨z1, z2, z3, z4, OY⟩ := tr_ret ST.out PGH.out XL.out XR.out hE2.out XC.out
                          subst z1 z2 z3 z4
                          obtain ⟨oy, cy, rfl⟩ := owns_slice OY
                          have hS := hHeld.trans (hq.mono hHeld.size)
                          go_wp2_with fail
                          refine hK.out _ _ hS (fun hHeld => ?_)
                          clear hK K hHeld
                          clear hq hE2
                          have hHeld := hS
                          clear hS
                          try simp only [Act.put, List.setIfInBounds_toArray, List.set_cons_zero, List.set_cons_succ]
                          refine wpAnyH_take (i := 5) (oi := { dst := some 207, op := Op.move (Operand.tmp 212), type := 63, pos := "outright.go:147", after := #[{ on := 4, ground := Ground.data }], guard := none }) (v := ?_) rfl (by kernel_rfl) (by kernel_rfl) (by kernel_rfl) (fun _ _ _ h => h) (Or.inl ⟨by rfl, ?_⟩) (by assumption) ?_
                          rotate_left
                          · (intro wq hSw; (try dsimp only at hSw); have K := K3.out.keep hSw; have c0 := K.b.c0; have c1 := K.b.c1; have c2 := K.b.c2; have c3 := K.b.c3; clear K; clear hSw; go_simp; first | done | with_reducible rfl)
                          try simp only [Act.put, List.setIfInBounds_toArray, List.set_cons_zero, List.set_cons_succ]
                          refine wpAnyH_take (i := 6) (oi := { dst := some 213, op := Op.extract (Operand.tmp 207) 0, type := 62, pos := "outright.go:147", after := #[{ on := 5, ground := Ground.data }], guard := none }) (v := ?_) rfl (by kernel_rfl) (by kernel_rfl) (by kernel_rfl) (fun _ _ _ h => h) (Or.inl ⟨by rfl, ?_⟩) (by assumption) ?_
                          rotate_left
                          · (intro wq hSw; (try dsimp only at hSw); have K := K3.out.keep hSw; have c0 := K.b.c0; have c1 := K.b.c1; have c2 := K.b.c2; have c3 := K.b.c3; clear K; clear hSw; go_simp; first | done | with_reducible rfl)
                          try simp only [Act.put, List.setIfInBounds_toArray, List.set_cons_zero, List.set_cons_succ]
                          refine wpAnyH_take (i := 7) (oi := { dst := some 214, op := Op.extract (Operand.tmp 207) 1, type := 24, pos := "outright.go:147", after := #[{ on := 5, ground := Ground.data }, { on := 9, ground := Ground.gcOnly Departure.lateStores }], guard := none }) (v := ?_) rfl (by kernel_rfl) (by kernel_rfl) (by kernel_rfl) (fun _ _ _ h => h) (Or.inl ⟨by rfl, ?_⟩) (by assumption) ?_
                          rotate_left
                          · (intro wq hSw; (try dsimp only at hSw); have K := K3.out.keep hSw; have c0 := K.b.c0; have c1 := K.b.c1; have c2 := K.b.c2; have c3 := K.b.c3; clear K; clear hSw; go_simp; first | done | with_reducible rfl)
                          try simp only [Act.put, List.setIfInBounds_toArray, List.set_cons_zero, List.set_cons_succ]
                          refine wpAnyH_ready (rs := [9]) (by kernel_rfl) (by simp) ?_
                          refine AllReadyH.cons (o := { dst := none, op := Op.store 62 (Operand.tmp 32) (Operand.tmp 213), type := 0, pos := "outright.go:147", after := #[{ on := 8, ground := Ground.data }, { on := 6, ground := Ground.data }, { on := 4, ground := Ground.chain }, { on := 0, ground := Ground.phase }, { on := 1, ground := Ground.phase }, { on := 2, ground := Ground.phase }, { on := 3, ground := Ground.phase }, { on := 4, ground := Ground.phase }, { on := 5, ground := Ground.phase }, { on := 6, ground := Ground.phase }, { on := 7, ground := Ground.textOnly Departure.lateStores }, { on := 8, ground := Ground.phase }], guard := none }) rfl (fun K hK => ?_) AllReadyH.nil
                          go_simp
                          have c0 := Zb.c0
                          have c1 := Zb.c1
                          have c2 := Zb.c2
                          have d3 := Zb.c3
                          have f0 := Zb.f0
                          have f1 := Zb.f1
                          have f2 := Zb.f2
                          have f3 := Zb.f3
                          go_simp
                          have hS := hHeld.trans (set4_below ZB (.slice oy L.length cy) (.int .i64 k2) (.int .i64 s2) (.int .i64 h2))
                          have Zb := Zb.set (.slice oy L.length cy) (.int .i64 k2) (.int .i64 s2) (.int .i64 h2)
                          have OY : (set4 v6 bk (.slice oy L.length cy) (.int .i64 k2) (.int .i64 s2) (.int .i64 h2)).ownsRow v5.heap.size 23 3 (.slice oy L.length cy) L.length (cells3 L) := by
                            unfold set4
                            exact ownsRow_setCell_below (ownsRow_setCell_below (ownsRow_setCell_below (ownsRow_setCell_below OY (by simpa using PB) _) (by simpa using PB) _) (by simpa using PB) _) (by simpa using PB) _
                          refine hK.out _ _ hS (fun hHeld => ?_)
                          clear hK K hHeld
                          clear c0 c1 c2 d3 f0 f1 f2 f3
                          change wpAnyH _ _ _ _ _ _ _ _ (set4 v6 bk (.slice oy L.length cy) (.int .i64 k2) (.int .i64 s2) (.int .i64 h2))
                          generalize set4 v6 bk (.slice oy L.length cy) (.int .i64 k2) (.int .i64 s2) (.int .i64 h2) = v7 at *
                          have hHeld := hS
                          clear hS
                          try simp only [Act.put, List.setIfInBounds_toArray, List.set_cons_zero, List.set_cons_succ]
                          refine wpAnyH_take (i := 10) (oi := { dst := some 24, op := Op.assign (Operand.tmp 214), type := 24, pos := "outright.go:147", after := #[{ on := 7, ground := Ground.data }, { on := 9, ground := Ground.chain }, { on := 0, ground := Ground.phase }, { on := 1, ground := Ground.phase }, { on := 2, ground := Ground.phase }, { on := 3, ground := Ground.phase }, { on := 4, ground := Ground.phase }, { on := 5, ground := Ground.phase }, { on := 6, ground := Ground.phase }, { on := 7, ground := Ground.phase }, { on := 8, ground := Ground.phase }, { on := 9, ground := Ground.phase }], guard := none }) (v := ?_) rfl (by kernel_rfl) (by kernel_rfl) (by kernel_rfl) (fun _ _ _ h => h) (Or.inl ⟨by rfl, ?_⟩) (by assumption) ?_
                          rotate_left
                          · (intro wq hSw; (try dsimp only at hSw); have K := K3.out.keep hSw; have c0 := K.b.c0; have c1 := K.b.c1; have c2 := K.b.c2; have c3 := K.b.c3; clear K; clear hSw; go_simp; first | done | with_reducible rfl)
                          try simp only [Act.put, List.setIfInBounds_toArray, List.set_cons_zero, List.set_cons_succ]
                          refine wpAnyH_done (by kernel_rfl) ?_ _
                          have TB3 := Lib.hid (T3.out.keep hHeld)
                          have KB3 := Lib.hid (K3.out.keep hHeld)
                          have ZB3 := Lib.hid Zb
                          have RY3 := Lib.hid (Rd.of_own OY)
                          clear hHeld Zb OY Rm PB ZB
                          have d0 := TB3.out.d.c0
                          have d1 := TB3.out.d.c1
                          have d2 := TB3.out.d.c2
                          have d3 := TB3.out.d.c3
                          have T4 := TB3
                          have ZB4 := ZB3
                          have RY4 := RY3
                          clear TB3 KB3 ZB3 RY3
                          have q0 := ZB4.out.c0
                          have q1 := ZB4.out.c1
                          have q2 := ZB4.out.c2
                          have q3 := ZB4.out.c3
                          go_wp2_with fail
                          refine (Dsame_any _ L k2 s2 h2 _ L k2 s2 h2 _ RY4.out HL.out (HR.out.keep T4.out.below) HL.out).mono ?_
                          rintro e y2 ⟨rfl, hb⟩
                          rw [same_true DC.out]
                          have T5 := Lib.hid (T4.out.keep hb)
                          clear hb T4 ZB4 RY4 d0 d1 d2 d3 q0 q1 q2 q3
                          go_wp2_with fail
                          refine (awake2_any _).mono ?_
                          rintro e y3 ⟨rfl, hb⟩
                          have B := Lib.hid (T5.out.below.trans (hb.mono T5.out.below.size))
                          clear hb T5
                          go_wp2
                          exact bodyPost_ret (v := .bool true) (by simp [results, Try.results16, go_sem, *]) rfl ⟨rfl, B.out⟩
                        exact AllReadyH.nil
                      refine AllReadyH.cons (o := { dst := some 32, op := Op.alloc 62, type := 0, pos := "outright.go:147", after := #[], guard := none }) rfl (fun K hK => ?_) ?_
                      · go_simp
                        have nb := below_new v0 (.cells #[.slice none 0 0, .int .i64 0, .int .i64 0, .int .i64 0] 62)
                        have Zb := Blk.new (.slice none 0 0) (.int .i64 0) (.int .i64 0) (.int .i64 0) 62 v0
                        have hS := hHeld.trans (nb.mono hHeld.size)
                        have ZB : wr.heap.size ≤ v0.heap.size := hHeld.size
                        refine hK.out _ _ hS (fun hHeld => ?_)
                        clear hK K hHeld
                        clear nb
                        generalize v0.alloc (.cells #[.slice none 0 0, .int .i64 0, .int .i64 0, .int .i64 0] 62) = v8 at *
                        generalize v0.heap.size = bk at *
                        have hHeld := hS
                        clear hS
                        try simp only [Act.put, List.setIfInBounds_toArray, List.set_cons_zero, List.set_cons_succ]
                        refine wpAnyH_ready (rs := [3]) (by kernel_rfl) (by simp) ?_
                        refine AllReadyH.cons (o := { dst := some 211, op := Op.call { callee := Callee.value (Operand.tmp 209), args := #[Operand.tmp 210], argTypes := #[48] }, type := 48, pos := "outright.go:147", after := #[{ on := 1, ground := Ground.data }, { on := 2, ground := Ground.data }], guard := none }) rfl (fun K hK => ?_) AllReadyH.nil
                        go_simp
                        refine (minus_any _ ns _ (T3.out.keep hHeld).n BN.out ln2.out).mono ?_
                        rintro e v9 ⟨mv, rfl, hq, Rm⟩
                        have hq : Below v8.heap.size v8 v9 := ⟨hq.os, hq.tape, hq.output, hq.size, hq.block⟩
                        have Zb := Zb.keep hq
                        obtain ⟨om, cm, rfl, qm⟩ := Rm
                        have Rm : Ri v9 (.slice om (negs ns).length cm) (negs ns) := ⟨om, cm, rfl, qm⟩
                        clear qm
                        have hS := hHeld.trans (hq.mono hHeld.size)
                        go_wp2_with fail
                        refine hK.out _ _ hS (fun hHeld => ?_)
                        clear hK K hHeld
                        clear hq
                        have hHeld := hS
                        clear hS
                        try simp only [Act.put, List.setIfInBounds_toArray, List.set_cons_zero, List.set_cons_succ]
                        refine wpAnyH_ready (rs := [4]) (by kernel_rfl) (by simp) ?_
                        refine AllReadyH.cons (o := { dst := some 212, op := Op.call { callee := Callee.value (Operand.func 74), args := #[Operand.tmp 208, Operand.tmp 211], argTypes := #[62, 48] }, type := 63, pos := "outright.go:147", after := #[{ on := 0, ground := Ground.data }, { on := 3, ground := Ground.data }, { on := 3, ground := Ground.chain }], guard := none }) rfl (fun K hK => ?_) AllReadyH.nil
                        go_simp
                        have PB : bk < v9.heap.size := Zb.size
                        refine (DTranslate_any gT PT _ X kk ss hh _ (negs ns) _ (K3.out.keep hHeld).r XO.out Rm OKM.out).mono ?_
                        rintro e v10 ⟨yv, k2, s2, h2, er2, rfl, hq, _, hE2⟩
                        have hq : Below v9.heap.size v9 v10 := ⟨hq.os, hq.tape, hq.output, hq.size, hq.block⟩
                        have Rm := Rm.keep hq
                        have Zb := Zb.keep hq
                        obtain ⟨z1, z2, z3, z4, OY⟩ := tr_ret ST.out PGH.out XL.out XR.out hE2.out XC.out
                        subst z1 z2 z3 z4
                        obtain ⟨oy, cy, rfl⟩ := owns_slice OY
                        have hS := hHeld.trans (hq.mono hHeld.size)
                        go_wp2_with fail
                        refine hK.out _ _ hS (fun hHeld => ?_)
                        clear hK K hHeld
                        clear hq hE2
                        have hHeld := hS
                        clear hS
                        try simp only [Act.put, List.setIfInBounds_toArray, List.set_cons_zero, List.set_cons_succ]
                        refine wpAnyH_take (i := 5) (oi := { dst := some 207, op := Op.move (Operand.tmp 212), type := 63, pos := "outright.go:147", after := #[{ on := 4, ground := Ground.data }], guard := none }) (v := ?_) rfl (by kernel_rfl) (by kernel_rfl) (by kernel_rfl) (fun _ _ _ h => h) (Or.inl ⟨by rfl, ?_⟩) (by assumption) ?_
                        rotate_left
                        · (intro wq hSw; (try dsimp only at hSw); have K := K3.out.keep hSw; have c0 := K.b.c0; have c1 := K.b.c1; have c2 := K.b.c2; have c3 := K.b.c3; clear K; clear hSw; go_simp; first | done | with_reducible rfl)
                        try simp only [Act.put, List.setIfInBounds_toArray, List.set_cons_zero, List.set_cons_succ]
                        refine wpAnyH_take (i := 6) (oi := { dst := some 213, op := Op.extract (Operand.tmp 207) 0, type := 62, pos := "outright.go:147", after := #[{ on := 5, ground := Ground.data }], guard := none }) (v := ?_) rfl (by kernel_rfl) (by kernel_rfl) (by kernel_rfl) (fun _ _ _ h => h) (Or.inl ⟨by rfl, ?_⟩) (by assumption) ?_
                        rotate_left
                        · (intro wq hSw; (try dsimp only at hSw); have K := K3.out.keep hSw; have c0 := K.b.c0; have c1 := K.b.c1; have c2 := K.b.c2; have c3 := K.b.c3; clear K; clear hSw; go_simp; first | done | with_reducible rfl)
                        try simp only [Act.put, List.setIfInBounds_toArray, List.set_cons_zero, List.set_cons_succ]
                        refine wpAnyH_take (i := 7) (oi := { dst := some 214, op := Op.extract (Operand.tmp 207) 1, type := 24, pos := "outright.go:147", after := #[{ on := 5, ground := Ground.data }, { on := 9, ground := Ground.gcOnly Departure.lateStores }], guard := none }) (v := ?_) rfl (by kernel_rfl) (by kernel_rfl) (by kernel_rfl) (fun _ _ _ h => h) (Or.inl ⟨by rfl, ?_⟩) (by assumption) ?_
                        rotate_left
                        · (intro wq hSw; (try dsimp only at hSw); have K := K3.out.keep hSw; have c0 := K.b.c0; have c1 := K.b.c1; have c2 := K.b.c2; have c3 := K.b.c3; clear K; clear hSw; go_simp; first | done | with_reducible rfl)
                        try simp only [Act.put, List.setIfInBounds_toArray, List.set_cons_zero, List.set_cons_succ]
                        refine wpAnyH_ready (rs := [9]) (by kernel_rfl) (by simp) ?_
                        refine AllReadyH.cons (o := { dst := none, op := Op.store 62 (Operand.tmp 32) (Operand.tmp 213), type := 0, pos := "outright.go:147", after := #[{ on := 8, ground := Ground.data }, { on := 6, ground := Ground.data }, { on := 4, ground := Ground.chain }, { on := 0, ground := Ground.phase }, { on := 1, ground := Ground.phase }, { on := 2, ground := Ground.phase }, { on := 3, ground := Ground.phase }, { on := 4, ground := Ground.phase }, { on := 5, ground := Ground.phase }, { on := 6, ground := Ground.phase }, { on := 7, ground := Ground.textOnly Departure.lateStores }, { on := 8, ground := Ground.phase }], guard := none }) rfl (fun K hK => ?_) AllReadyH.nil
                        go_simp
                        have c0 := Zb.c0
                        have c1 := Zb.c1
                        have c2 := Zb.c2
                        have d3 := Zb.c3
                        have f0 := Zb.f0
                        have f1 := Zb.f1
                        have f2 := Zb.f2
                        have f3 := Zb.f3
                        go_simp
                        have hS := hHeld.trans (set4_below ZB (.slice oy L.length cy) (.int .i64 k2) (.int .i64 s2) (.int .i64 h2))
                        have Zb := Zb.set (.slice oy L.length cy) (.int .i64 k2) (.int .i64 s2) (.int .i64 h2)
                        have OY : (set4 v10 bk (.slice oy L.length cy) (.int .i64 k2) (.int .i64 s2) (.int .i64 h2)).ownsRow v9.heap.size 23 3 (.slice oy L.length cy) L.length (cells3 L) := by
                          unfold set4
                          exact ownsRow_setCell_below (ownsRow_setCell_below (ownsRow_setCell_below (ownsRow_setCell_below OY (by simpa using PB) _) (by simpa using PB) _) (by simpa using PB) _) (by simpa using PB) _
                        refine hK.out _ _ hS (fun hHeld => ?_)
                        clear hK K hHeld
                        clear c0 c1 c2 d3 f0 f1 f2 f3
                        change wpAnyH _ _ _ _ _ _ _ _ (set4 v10 bk (.slice oy L.length cy) (.int .i64 k2) (.int .i64 s2) (.int .i64 h2))
                        generalize set4 v10 bk (.slice oy L.length cy) (.int .i64 k2) (.int .i64 s2) (.int .i64 h2) = v11 at *
                        have hHeld := hS
                        clear hS
                        try simp only [Act.put, List.setIfInBounds_toArray, List.set_cons_zero, List.set_cons_succ]
                        refine wpAnyH_take (i := 10) (oi := { dst := some 24, op := Op.assign (Operand.tmp 214), type := 24, pos := "outright.go:147", after := #[{ on := 7, ground := Ground.data }, { on := 9, ground := Ground.chain }, { on := 0, ground := Ground.phase }, { on := 1, ground := Ground.phase }, { on := 2, ground := Ground.phase }, { on := 3, ground := Ground.phase }, { on := 4, ground := Ground.phase }, { on := 5, ground := Ground.phase }, { on := 6, ground := Ground.phase }, { on := 7, ground := Ground.phase }, { on := 8, ground := Ground.phase }, { on := 9, ground := Ground.phase }], guard := none }) (v := ?_) rfl (by kernel_rfl) (by kernel_rfl) (by kernel_rfl) (fun _ _ _ h => h) (Or.inl ⟨by rfl, ?_⟩) (by assumption) ?_
                        rotate_left
                        · (intro wq hSw; (try dsimp only at hSw); have K := K3.out.keep hSw; have c0 := K.b.c0; have c1 := K.b.c1; have c2 := K.b.c2; have c3 := K.b.c3; clear K; clear hSw; go_simp; first | done | with_reducible rfl)
                        try simp only [Act.put, List.setIfInBounds_toArray, List.set_cons_zero, List.set_cons_succ]
                        refine wpAnyH_done (by kernel_rfl) ?_ _
                        have TB3 := Lib.hid (T3.out.keep hHeld)
                        have KB3 := Lib.hid (K3.out.keep hHeld)
                        have ZB3 := Lib.hid Zb
                        have RY3 := Lib.hid (Rd.of_own OY)
                        clear hHeld Zb OY Rm PB ZB
                        have d0 := TB3.out.d.c0
                        have d1 := TB3.out.d.c1
                        have d2 := TB3.out.d.c2
                        have d3 := TB3.out.d.c3
                        have T4 := TB3
                        have ZB4 := ZB3
                        have RY4 := RY3
                        clear TB3 KB3 ZB3 RY3
                        have q0 := ZB4.out.c0
                        have q1 := ZB4.out.c1
                        have q2 := ZB4.out.c2
                        have q3 := ZB4.out.c3
                        go_wp2_with fail
                        refine (Dsame_any _ L k2 s2 h2 _ L k2 s2 h2 _ RY4.out HL.out (HR.out.keep T4.out.below) HL.out).mono ?_
                        rintro e y2 ⟨rfl, hb⟩
                        rw [same_true DC.out]
                        have T5 := Lib.hid (T4.out.keep hb)
                        clear hb T4 ZB4 RY4 d0 d1 d2 d3 q0 q1 q2 q3
                        go_wp2_with fail
                        refine (awake2_any _).mono ?_
                        rintro e y3 ⟨rfl, hb⟩
                        have B := Lib.hid (T5.out.below.trans (hb.mono T5.out.below.size))
                        clear hb T5
                        go_wp2
                        exact bodyPost_ret (v := .bool true) (by simp [results, Try.results16, go_sem, *]) rfl ⟨rfl, B.out⟩
                      exact AllReadyH.nil
            · have e0' : (er != 0) = true := by simp [e0]
              clear e0
              go_wp2_with fail
              refine (awake2_any _).mono ?_
              rintro e y1 ⟨rfl, hb⟩
              have B := Lib.hid (T1.out.below.trans (hb.mono T1.out.below.size))
              clear hb T1 K1
              go_wp2
              exact bodyPost_ret (v := .bool true) (by simp [results, Try.results16, go_sem, *]) rfl ⟨rfl, B.out⟩
theorem domainParts_walk (v : Value) (L : List R3) (k s h a b : Int) (w : World) (hr : Rd w v L) (hL : Ok3 L) (_ha : (Lit.int .i8 a).wf = true) (_hb : (Lit.int .i8 b).wf = true) :
    Calls Try.prog 16 #[.agg #[v, .int .i64 k, .int .i64 s, .int .i64 h], .int .i8 a, .int .i8 b] w fun e w' => e = .returned (.bool true) ∧ Below w.heap.size w w' := by
  cases sb : smallB L k s h
  · exact dr_bad v L k s h a b w hr hL sb
  · have sb' := sb
    unfold smallB at sb'
    simp at sb'
    by_cases pz : prodL L = 0
    · exact dr_zero v L k s h a b w hr hL sb (by unfold dsiz; rw [if_pos sb'.1, pz])
    · exact dr_good v L k s h a b w hr hL sb'.1 sb'.2 pz
end Go.Proofs.Ytabgphlpdoockaa
