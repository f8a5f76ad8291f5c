/-
  Part 10: DomL.
-/
import Derived.Test.YtmelknodmbdhpaaOn9
import Derived.BigQuiet
import Derived.Deep.CutBlock
import Derived.Deep.DeepCutAuto
import Derived.Deep.DrawnRows
import Derived.Deep.LoopGhost
import Derived.Deep.QuietTactic
import Derived.Deep.RegionHeld3
import Derived.Deep.RegionWith
import Derived.Lib.Hide
import Derived.WalkKit
import Derived.WalkLawsBesides
import Derived.WalkSpells
namespace Go.Proofs.Ytmelknodmbdhpaa
open Go.RowKit
theorem owns_under {w w' : World} {base B : Nat} {e : TypeId} {size : Nat} {v : Value} {n : Nat} {xs : List Value} (h : w.ownsRow base e size v n xs) (hb : Below B w w') (hlt : ∀ g, v.ownBlock = some g → g < B) : w'.ownsRow base e size v n xs := by
  refine ⟨h.1, ?_⟩
  rcases h.2 with hn | ⟨g, cap, cur, rfl, hg, hh, rest⟩
  · exact Or.inl hn
  · exact Or.inr ⟨g, cap, cur, rfl, hg, (hb.block g (hlt g rfl)).trans hh, rest⟩
/-- the blocks of Subtract -/
structure SbSt (w : World) (av : Value) (k s h : Int) (bv : Value) (k' s' h' : Int) (cb : Nat) (cv : Value) (C : List R3) (wx : World) : Prop where
  below : Below w.heap.size w wx
  a : Blk w.heap.size av (.int .i64 k) (.int .i64 s) (.int .i64 h) wx
  b : Blk (w.heap.size + 1) bv (.int .i64 k') (.int .i64 s') (.int .i64 h') wx
  c : Blk cb cv (.int .i64 k) (.int .i64 s) (.int .i64 h) wx
  row : wx.ownsRow w.heap.size 23 3 cv C.length (cells3 C)
  rlt : ∀ g, cv.ownBlock = some g → g < cb
  cbl : w.heap.size + 1 < cb
theorem SbSt.under {w : World} {av : Value} {k s h : Int} {bv : Value} {k' s' h' : Int} {cb : Nat} {cv : Value} {C : List R3} {wx wy : World} {B : Nat} (t : SbSt w av k s h bv k' s' h' cb cv C wx) (hb : Below B wx wy) (hB : cb < B) : SbSt w av k s h bv k' s' h' cb cv C wy :=
  ⟨t.below.trans (hb.mono (by have := t.cbl; omega)), blk_under t.a hb (by have := t.cbl; omega), blk_under t.b hb (by have := t.cbl; omega), blk_under t.c hb hB, owns_under t.row hb (fun g hg => Nat.lt_trans (t.rlt g hg) hB), t.rlt, t.cbl⟩
theorem SbSt.keep {w : World} {av : Value} {k s h : Int} {bv : Value} {k' s' h' : Int} {cb : Nat} {cv : Value} {C : List R3} {wx wy : World} (t : SbSt w av k s h bv k' s' h' cb cv C wx) (hb : Below wx.heap.size wx wy) : SbSt w av k s h bv k' s' h' cb cv C wy :=
  t.under hb t.c.size
theorem chk_i64 {l h s : Int} (hk : chk l h s = 0) : I64 l ∧ I64 h ∧ I64 s := by
  have := chk_bounds hk
  unfold I64
  omega
theorem meets_ok {L M C : List R3} (hm : Meets L M C) : Ok3 C := fun x hx => by
  obtain ⟨i, hi, e⟩ := List.getElem_of_mem hx
  obtain ⟨A, B, _, _, f⟩ := hm.2 i x (by rw [← e]; exact List.getElem?_eq_getElem hi)
  exact chk_i64 f.1
/-- what Subtract returns -/
def DSubRet (L : List R3) (k s h : Int) (M : List R3) (k' s' h' : Int) (w : World) : Ending → World → Prop := fun e w' => ∃ (v : Value) (er : Int), e = .returned (.tuple #[v, .int .i64 er]) ∧ Below w.heap.size w w' ∧
  Hid ((¬ dboth L k s h M k' s' h' = 0 ∧ er = dboth L k s h M k' s' h' ∧ v = .slice none 0 0) ∨
    (dboth L k s h M k' s' h' = 0 ∧ ∃ (C : List R3) (Ds : List (List R3)), Meets L M C ∧ DSubs L M C Ds er ∧ OwnD w.heap.size w' v Ds k s h))
set_option maxRecDepth 100000 in
set_option maxHeartbeats 6400000 in
theorem Dsub_any (v : Value) (L : List R3) (k s h : Int) (v' : Value) (M : List R3) (k' s' h' : Int) (w : World) (hr : Rd w v L) (hL : Ok3 L) (hr' : Rd w v' M) (hM : Ok3 M) (hcap : ∀ a n c, v = .slice a n c → n ≤ c) :
    Calls Try.prog 84 #[.agg #[v, .int .i64 k, .int .i64 s, .int .i64 h], .agg #[v', .int .i64 k', .int .i64 s', .int .i64 h']] w (DSubRet L k s h M k' s' h' w) := by
  obtain ⟨ao, cap, rfl, hc⟩ := hr
  obtain ⟨ao', cap', rfl, hc'⟩ := hr'
  have HR : Hid (Rd w (.slice ao L.length cap) L) := Lib.hid ⟨ao, cap, rfl, hc⟩
  have HR' : Hid (Rd w (.slice ao' M.length cap') M) := Lib.hid ⟨ao', cap', rfl, hc'⟩
  have HCC := Lib.hid hc
  have HCC' := Lib.hid hc'
  have HL := Lib.hid hL
  have HM := Lib.hid hM
  have hcp : L.length ≤ cap := hcap _ _ _ rfl
  clear hc hL hc' hM hcap
  obtain ⟨i1, ji, jz0, jz1, jz2⟩ := info_parts Try.infoDomain
  go_enter Try.func84, Try.ntmps84
  go_wp2_with fail
  refine (Dinter_any _ L k s h _ M k' s' h' _ ((HR.out.keep (below_new _ _)).keep (below_new _ _)) HL.out ((HR'.out.keep (below_new _ _)).keep (below_new _ _)) HM.out).mono ?_
  rintro e w1 ⟨rv, kk, ss, hh, er, rfl, hb1, hE⟩
  have R1 := res44 hb1
  have S0 : ((w.alloc (.cells #[.slice ao L.length cap, .int .i64 k, .int .i64 s, .int .i64 h] 62)).alloc (.cells #[.slice ao' M.length cap', .int .i64 k', .int .i64 s', .int .i64 h'] 62)).heap.size = w.heap.size + 1 + 1 := by simp
  by_cases c : dboth L k s h M k' s' h' = 0
  · have C := Lib.hid c
    obtain ⟨rfl, rfl, rfl, rfl, X, hX, own⟩ : er = 0 ∧ kk = k ∧ ss = s ∧ hh = h ∧ ∃ X, Meets L M X ∧ w1.ownsRow (w.heap.size + 1 + 1) 23 3 rv X.length (cells3 X) := by
      rcases hE.out with ⟨_, h1, h2, h3, h4, X, hX, own⟩ | ⟨h0, _⟩
      · rw [S0] at own
        exact ⟨h1, h2, h3, h4, X, hX, own⟩
      · exact absurd c h0
    have HX := Lib.hid hX
    obtain ⟨ra, rc, rfl⟩ := owns_slice own
    have T2 : Hid (SbSt w (.slice ao L.length cap) kk ss hh (.slice ao' M.length cap') k' s' h' w1.heap.size (.slice ra X.length rc) X (w1.alloc (.cells #[.slice ra X.length rc, .int .i64 kk, .int .i64 ss, .int .i64 hh] 62))) := Lib.hid (by
      have nb := below_new w1 (.cells #[.slice ra X.length rc, .int .i64 kk, .int .i64 ss, .int .i64 hh] 62)
      exact ⟨R1.1.trans (nb.mono R1.1.size), R1.2.1.keep nb, R1.2.2.keep nb, Blk.new _ _ _ _ _ w1, owns_base (owns_below own nb) (by omega), fun g hg => (own.lt g hg).2, R1.2.2.size⟩)
    have ok := Lib.hid (dboth_zero c)
    have rk := Lib.hid (dchk_rank ok.out.1)
    have ln := Lib.hid ok.out.2.2
    have lx := Lib.hid hX.1
    clear hE hb1 R1 S0 own hX c
    obtain ⟨ba, oa, rfl, hba, ca⟩ := HCC.out.resolve_left (by have := rk.out; omega)
    obtain ⟨bb, ob, rfl, hbb, cb⟩ := HCC'.out.resolve_left (by have := rk.out; have := ln.out; omega)
    have CA : Hid (At3 w ba oa L) := Lib.hid ca
    have CB : Hid (At3 w bb ob M) := Lib.hid cb
    clear ca cb HCC HCC'
    go_upto_region 2 with fail
    generalize w1.alloc (.cells #[.slice ra X.length rc, .int .i64 kk, .int .i64 ss, .int .i64 hh] 62) = w2 at *
    generalize w1.heap.size = cb at *
    have x0 := T2.out.a.c0
    have x1 := T2.out.a.c1
    have x2 := T2.out.a.c2
    have x3 := T2.out.a.c3
    go_wp2_with fail
    refine (product_any _ L _ (HR.out.keep T2.out.below) HL.out (by have := rk.out; omega)).mono ?_
    rintro e w3 ⟨rfl, hb3⟩
    have T3 := Lib.hid (T2.out.keep hb3)
    clear hb3 T2 x0 x1 x2 x3
    by_cases c : prodL L = 0
    · have c' : (prodL L == 0) = true := by simp [c]
      have PC := Lib.hid c
      clear c
      go_wp2
      refine bodyPost_ret (v := .tuple #[.slice none 0 0, .int .i64 0]) (by simp [results, Try.results84, go_sem, *]) rfl ⟨_, _, rfl, T3.out.below, Lib.hid (Or.inr ⟨C.out, X, [], HX.out, Or.inl ⟨PC.out, rfl, rfl⟩, OwnD.nil _ _ _ _ _⟩)⟩
    · have c' : (prodL L == 0) = false := by simp [c]
      have PC := Lib.hid c
      clear c
      have y0 := T3.out.c.c0
      go_wp2_with fail
      refine (product_any _ X _ (Rd.of_own T3.out.row) (meets_ok HX.out) (by have := rk.out; have := lx.out; omega)).mono ?_
      rintro e w4 ⟨rfl, hb4⟩
      have T4 := Lib.hid (T3.out.keep hb4)
      clear hb4 T3 y0
      have x0 := T4.out.a.c0
      have x1 := T4.out.a.c1
      have x2 := T4.out.a.c2
      have x3 := T4.out.a.c3
      by_cases c : prodL X = 0
      · have c' : (prodL X == 0) = true := by simp [c]
        have PX := Lib.hid c
        clear c
        go_wp2_with fail
        refine (with_any _ kk ss hh ba oa cap L _ (Nat.lt_of_lt_of_le hba T4.out.below.size) (Lib.hid (CA.out.under T4.out.below hba)) (by have := rk.out; omega) ⟨_, _, _, rfl⟩).mono ?_
        rintro e w5 ⟨dv, rfl, ow, hb5⟩
        have T5 := Lib.hid (T4.out.keep hb5)
        have OD : Hid (OwnD w.heap.size (w5.alloc (.cells #[dv, .int .i64 kk, .int .i64 ss, .int .i64 hh] 62)) (.slice (some ⟨w5.heap.size, 0, none⟩) 1 1) [L] kk ss hh) := Lib.hid (by
          refine ⟨[dv], rfl, ⟨by simp [cells4], Or.inr ⟨w5.heap.size, 1, _, rfl, T5.out.below.size, heap_alloc_new w5 _, Nat.le_refl _, by unfold maxLen; omega, rfl, by simp [cells4]⟩⟩, fun j u D hu hD => ?_⟩
          match j, hu, hD with
          | 0, hu, hD =>
            simp at hu hD
            subst hu; subst hD
            exact owns_base (owns_below ow.out (below_new _ _)) T4.out.below.size)
        have B6 : Hid (Below w.heap.size w (w5.alloc (.cells #[dv, .int .i64 kk, .int .i64 ss, .int .i64 hh] 62))) := Lib.hid (T5.out.below.trans ((below_new _ _).mono T5.out.below.size))
        obtain ⟨da, dc, rfl⟩ := owns_slice ow.out
        clear hb5 T4 x0 x1 x2 x3
        go_wp2
        exact bodyPost_ret (v := .tuple #[.slice (some ⟨w5.heap.size, 0, none⟩) 1 1, .int .i64 0]) (by simp [results, Try.results84, go_sem, *]) rfl ⟨_, _, rfl, B6.out, Lib.hid (Or.inr ⟨C.out, X, [L], HX.out, Or.inr (Or.inl ⟨PC.out, PX.out, rfl, rfl⟩), OD.out⟩)⟩
      · have c' : (prodL X == 0) = false := by simp [c]
        have PX := Lib.hid c
        clear c
        have cpX : X.length ≤ rc := by
          rcases T4.out.row.2 with ⟨e, e2⟩ | ⟨g, cap2, cur, e, _, _, hl, _⟩
          · omega
          · injection e with e1 e2 e3
            omega
        obtain ⟨cg, rfl⟩ : ∃ cg, ra = some ⟨cg, 0, none⟩ := owns_addr T4.out.row (by have := rk.out; have := lx.out; omega)
        clear x0 x1 x2 x3
        have x0 := T4.out.a.c0
        go_wp2_with fail
        clear x0
        go_loopg [8, 9, 10, 11, 13, 14, 43] (L.length + 1) (fun gh v8 _ _ _ _ _ v43 wr => ∃ PS : List (List R3), v43 = .int .i64 PS.length ∧ (PS.length ≤ L.length ∧ L.length - PS.length < gh) ∧ Hid ((∀ i P, PS[i]? = some P → SubsP L M i P) ∧ ∀ P ∈ PS, P.length ≤ 1000) ∧ Hid (SbSt w (.slice (some ⟨ba, oa, none⟩) L.length cap) kk ss hh (.slice (some ⟨bb, ob, none⟩) M.length cap') k' s' h' cb (.slice (some ⟨cg, 0, none⟩) X.length rc) X wr) ∧ Hid (OwnD (cb + 1) wr v8 (allP X L PS PS.length) kk ss hh))
        case atStart => exact ⟨[], rfl, ⟨by simp, by simp⟩, Lib.hid ⟨fun i P hP => by simp at hP, fun P hP => by cases hP⟩, T4, Lib.hid (OwnD.nil _ _ _ _ _)⟩
        case round =>
          obtain ⟨PS, rfl, ⟨i0, ig⟩, HP, T5, OD5⟩ := hrel
          have KG := Lib.hid ig
          clear ig
          by_cases hi : PS.length < L.length
          · obtain ⟨A, hA⟩ : ∃ A, L[PS.length]? = some A := ⟨L[PS.length], List.getElem?_eq_getElem hi⟩
            obtain ⟨B, hB⟩ : ∃ B, M[PS.length]? = some B := ⟨M[PS.length]'(by have := ln.out; omega), List.getElem?_eq_getElem _⟩
            have HA := Lib.hid hA
            have HB := Lib.hid hB
            have ckA : Hid (chk A.1 A.2.1 A.2.2 = 0) := Lib.hid ((dchk_zero ok.out.1).2.2 A (List.mem_of_getElem? hA)).1
            have ckB : Hid (chk B.1 B.2.1 B.2.2 = 0) := Lib.hid ((dchk_zero ok.out.2.1).2.2 B (List.mem_of_getElem? hB)).1
            obtain ⟨pa0, pa1, pa2⟩ := CA.out.under T5.out.below hba PS.length A hA
            obtain ⟨pb0, pb1, pb2⟩ := CB.out.under T5.out.below hbb PS.length B hB
            have pm : PS.length < M.length := by have := ln.out; omega
            have x0 := T5.out.a.c0
            have y0 := T5.out.b.c0
            have zba : ba < wr.heap.size := Nat.lt_of_lt_of_le hba T5.out.below.size
            have zbb : bb < wr.heap.size := Nat.lt_of_lt_of_le hbb T5.out.below.size
            have z0 := T5.out.a.size
            have z1 := T5.out.b.size
            clear hA hB
            go_upto_region 12 with fail
            refine wp_region_held_drew (S := (fun w' => w'.cell? ⟨w.heap.size, 0, none⟩ = some (.slice (some ⟨ba, oa, none⟩) L.length cap) ∧ w'.cell? ⟨ba, oa + PS.length * 3, none⟩ = some (.int .i64 A.1) ∧ w'.cell? ⟨ba, oa + PS.length * 3 + 1, none⟩ = some (.int .i64 A.2.1) ∧ w'.cell? ⟨ba, oa + PS.length * 3 + 2, none⟩ = some (.int .i64 A.2.2) ∧ w'.cell? ⟨w.heap.size + 1, 0, none⟩ = some (.slice (some ⟨bb, ob, none⟩) M.length cap') ∧ w'.cell? ⟨bb, ob + PS.length * 3, none⟩ = some (.int .i64 B.1) ∧ w'.cell? ⟨bb, ob + PS.length * 3 + 1, none⟩ = some (.int .i64 B.2.1) ∧ w'.cell? ⟨bb, ob + PS.length * 3 + 2, none⟩ = some (.int .i64 B.2.2))) (by kernel_rfl) ?_ (fun hHeld => ?_)
            · first | exact hHeld | exact ⟨x0, pa0, pa1, pa2, y0, pb0, pb1, pb2⟩ | (obtain ⟨q0, q1, q2, q3, q4, q5, q6, q7⟩ := hHeld; refine ⟨?_, ?_, ?_, ?_, ?_, ?_, ?_, ?_⟩ <;> simp [go_sem, *]; done) | go_keep
            refine wpAnyH_take (i := 0) (oi := { dst := some 47, op := Op.fieldAddr 62 (Operand.tmp 2) 0, type := 0, pos := "sets.go:87", after := #[], guard := none }) (v := ?_) rfl (by kernel_rfl) (by kernel_rfl) (by kernel_rfl) (fun _ _ _ h => h) (Or.inl ⟨by rfl, ?_⟩) (by assumption) ?_
            rotate_left
            · (intro w hSw; (try dsimp only at hSw); go_simp; first | done | with_reducible rfl)
            try simp only [Act.put, List.setIfInBounds_toArray, List.set_cons_zero, List.set_cons_succ]
            refine wpAnyH_take (i := 1) (oi := { dst := some 48, op := Op.load 40 (Operand.tmp 47), type := 40, pos := "sets.go:87", after := #[{ on := 0, ground := Ground.data }], guard := none }) (v := ?_) rfl (by kernel_rfl) (by kernel_rfl) (by kernel_rfl) (fun _ _ _ h => h) (Or.inl ⟨by rfl, ?_⟩) (by assumption) ?_
            rotate_left
            · (intro w hSw; (try dsimp only at hSw); go_simp; first | done | with_reducible rfl)
            try simp only [Act.put, List.setIfInBounds_toArray, List.set_cons_zero, List.set_cons_succ]
            refine wpAnyH_take (i := 2) (oi := { dst := some 49, op := Op.move (Operand.tmp 9), type := 3, pos := "sets.go:87", after := #[], guard := none }) (v := ?_) rfl (by kernel_rfl) (by kernel_rfl) (by kernel_rfl) (fun _ _ _ h => h) (Or.inl ⟨by rfl, ?_⟩) (by assumption) ?_
            rotate_left
            · (intro w hSw; (try dsimp only at hSw); go_simp; first | done | with_reducible rfl)
            try simp only [Act.put, List.setIfInBounds_toArray, List.set_cons_zero, List.set_cons_succ]
            refine wpAnyH_take (i := 3) (oi := { dst := some 50, op := Op.indexAddr 40 (Operand.tmp 48) (Operand.tmp 49), type := 0, pos := "sets.go:87", after := #[{ on := 1, ground := Ground.data }, { on := 2, ground := Ground.data }], guard := none }) (v := ?_) rfl (by kernel_rfl) (by kernel_rfl) (by kernel_rfl) (fun _ _ _ h => h) (Or.inl ⟨by rfl, ?_⟩) (by assumption) ?_
            rotate_left
            · (intro w hSw; (try dsimp only at hSw); go_simp; first | done | with_reducible rfl)
            try simp only [Act.put, List.setIfInBounds_toArray, List.set_cons_zero, List.set_cons_succ]
            refine wpAnyH_take (i := 4) (oi := { dst := some 51, op := Op.load 23 (Operand.tmp 50), type := 23, pos := "sets.go:87", after := #[{ on := 3, ground := Ground.data }], guard := none }) (v := ?_) rfl (by kernel_rfl) (by kernel_rfl) (by kernel_rfl) (fun _ _ _ h => h) (Or.inl ⟨by rfl, ?_⟩) (by assumption) ?_
            rotate_left
            · (intro w hSw; (try dsimp only at hSw); go_simp; first | done | with_reducible rfl)
            try simp only [Act.put, List.setIfInBounds_toArray, List.set_cons_zero, List.set_cons_succ]
            refine wpAnyH_take (i := 5) (oi := { dst := some 52, op := Op.fieldAddr 62 (Operand.tmp 3) 0, type := 0, pos := "sets.go:87", after := #[], guard := none }) (v := ?_) rfl (by kernel_rfl) (by kernel_rfl) (by kernel_rfl) (fun _ _ _ h => h) (Or.inl ⟨by rfl, ?_⟩) (by assumption) ?_
            rotate_left
            · (intro w hSw; (try dsimp only at hSw); go_simp; first | done | with_reducible rfl)
            try simp only [Act.put, List.setIfInBounds_toArray, List.set_cons_zero, List.set_cons_succ]
            refine wpAnyH_take (i := 6) (oi := { dst := some 53, op := Op.load 40 (Operand.tmp 52), type := 40, pos := "sets.go:87", after := #[{ on := 5, ground := Ground.data }], guard := none }) (v := ?_) rfl (by kernel_rfl) (by kernel_rfl) (by kernel_rfl) (fun _ _ _ h => h) (Or.inl ⟨by rfl, ?_⟩) (by assumption) ?_
            rotate_left
            · (intro w hSw; (try dsimp only at hSw); go_simp; first | done | with_reducible rfl)
            try simp only [Act.put, List.setIfInBounds_toArray, List.set_cons_zero, List.set_cons_succ]
            refine wpAnyH_take (i := 7) (oi := { dst := some 54, op := Op.move (Operand.tmp 9), type := 3, pos := "sets.go:87", after := #[], guard := none }) (v := ?_) rfl (by kernel_rfl) (by kernel_rfl) (by kernel_rfl) (fun _ _ _ h => h) (Or.inl ⟨by rfl, ?_⟩) (by assumption) ?_
            rotate_left
            · (intro w hSw; (try dsimp only at hSw); go_simp; first | done | with_reducible rfl)
            try simp only [Act.put, List.setIfInBounds_toArray, List.set_cons_zero, List.set_cons_succ]
            refine wpAnyH_take (i := 8) (oi := { dst := some 55, op := Op.indexAddr 40 (Operand.tmp 53) (Operand.tmp 54), type := 0, pos := "sets.go:87", after := #[{ on := 6, ground := Ground.data }, { on := 7, ground := Ground.data }], guard := none }) (v := ?_) rfl (by kernel_rfl) (by kernel_rfl) (by kernel_rfl) (fun _ _ _ h => h) (Or.inl ⟨by rfl, ?_⟩) (by assumption) ?_
            rotate_left
            · (intro w hSw; (try dsimp only at hSw); go_simp; first | done | with_reducible rfl)
            try simp only [Act.put, List.setIfInBounds_toArray, List.set_cons_zero, List.set_cons_succ]
            refine wpAnyH_take (i := 9) (oi := { dst := some 56, op := Op.load 23 (Operand.tmp 55), type := 23, pos := "sets.go:87", after := #[{ on := 8, ground := Ground.data }], guard := none }) (v := ?_) rfl (by kernel_rfl) (by kernel_rfl) (by kernel_rfl) (fun _ _ _ h => h) (Or.inl ⟨by rfl, ?_⟩) (by assumption) ?_
            rotate_left
            · (intro w hSw; (try dsimp only at hSw); go_simp; first | done | with_reducible rfl)
            try simp only [Act.put, List.setIfInBounds_toArray, List.set_cons_zero, List.set_cons_succ]
            refine wpAnyH_ready (rs := [10]) (by kernel_rfl) (by simp) ?_
            refine AllReadyH.cons (o := { dst := some 57, op := Op.call { callee := Callee.value (Operand.func 45), args := #[Operand.tmp 51, Operand.tmp 56], argTypes := #[23, 23] }, type := 41, pos := "sets.go:87", after := #[{ on := 4, ground := Ground.data }, { on := 9, ground := Ground.data }], guard := none }) rfl (fun K hK => ?_) AllReadyH.nil
            go_simp
            refine (Subtract_ok A.1 A.2.1 A.2.2 B.1 B.2.1 B.2.2 _ ckA ckB).mono ?_
            rintro e w6 ⟨l0, h0, s0, hF, pv, pe, rfl, hb6', hP⟩
            have hb6 : Below wr.heap.size wr w6 := ⟨hb6'.os, hb6'.tape, hb6'.output, hb6'.size, hb6'.block⟩
            have SP := Lib.hid hF
            have HPP := Lib.hid hP
            clear hF hP hb6'
            go_wp2_with fail
            refine hK.out _ _ ?_ (fun hHeld10 => ?_)
            · (obtain ⟨q0, q1, q2, q3, q4, q5, q6, q7⟩ := hHeld; exact ⟨(hb6.cell (p := ⟨w.heap.size, 0, none⟩) (by first | (simp; done) | (simp; omega) | omega)).trans q0, (hb6.cell (p := ⟨ba, oa + PS.length * 3, none⟩) (by first | (simp; done) | (simp; omega) | omega)).trans q1, (hb6.cell (p := ⟨ba, oa + PS.length * 3 + 1, none⟩) (by first | (simp; done) | (simp; omega) | omega)).trans q2, (hb6.cell (p := ⟨ba, oa + PS.length * 3 + 2, none⟩) (by first | (simp; done) | (simp; omega) | omega)).trans q3, (hb6.cell (p := ⟨w.heap.size + 1, 0, none⟩) (by first | (simp; done) | (simp; omega) | omega)).trans q4, (hb6.cell (p := ⟨bb, ob + PS.length * 3, none⟩) (by first | (simp; done) | (simp; omega) | omega)).trans q5, (hb6.cell (p := ⟨bb, ob + PS.length * 3 + 1, none⟩) (by first | (simp; done) | (simp; omega) | omega)).trans q6, (hb6.cell (p := ⟨bb, ob + PS.length * 3 + 2, none⟩) (by first | (simp; done) | (simp; omega) | omega)).trans q7⟩)
            clear hK K hHeld
            have hHeld := hHeld10
            clear hHeld10
            try simp only [Act.put, List.setIfInBounds_toArray, List.set_cons_zero, List.set_cons_succ]
            refine wpAnyH_take (i := 11) (oi := { dst := some 46, op := Op.move (Operand.tmp 57), type := 41, pos := "sets.go:87", after := #[{ on := 10, ground := Ground.data }], guard := none }) (v := ?_) rfl (by kernel_rfl) (by kernel_rfl) (by kernel_rfl) (fun _ _ _ h => h) (Or.inl ⟨by rfl, ?_⟩) (by assumption) ?_
            rotate_left
            · (intro w hSw; (try dsimp only at hSw); go_simp; first | done | with_reducible rfl)
            try simp only [Act.put, List.setIfInBounds_toArray, List.set_cons_zero, List.set_cons_succ]
            refine wpAnyH_take (i := 12) (oi := { dst := some 58, op := Op.extract (Operand.tmp 46) 0, type := 40, pos := "sets.go:87", after := #[{ on := 11, ground := Ground.data }], guard := none }) (v := ?_) rfl (by kernel_rfl) (by kernel_rfl) (by kernel_rfl) (fun _ _ _ h => h) (Or.inl ⟨by rfl, ?_⟩) (by assumption) ?_
            rotate_left
            · (intro w hSw; (try dsimp only at hSw); go_simp; first | done | with_reducible rfl)
            try simp only [Act.put, List.setIfInBounds_toArray, List.set_cons_zero, List.set_cons_succ]
            refine wpAnyH_take (i := 13) (oi := { dst := some 59, op := Op.extract (Operand.tmp 46) 1, type := 24, pos := "sets.go:87", after := #[{ on := 11, ground := Ground.data }, { on := 14, ground := Ground.gcOnly Departure.lateStores }], guard := none }) (v := ?_) rfl (by kernel_rfl) (by kernel_rfl) (by kernel_rfl) (fun _ _ _ h => h) (Or.inl ⟨by rfl, ?_⟩) (by assumption) ?_
            rotate_left
            · (intro w hSw; (try dsimp only at hSw); go_simp; first | done | with_reducible rfl)
            try simp only [Act.put, List.setIfInBounds_toArray, List.set_cons_zero, List.set_cons_succ]
            refine wpAnyH_take (i := 14) (oi := { dst := some 10, op := Op.assign (Operand.tmp 58), type := 40, pos := "sets.go:87", after := #[{ on := 12, ground := Ground.data }, { on := 10, ground := Ground.chain }, { on := 0, ground := Ground.phase }, { on := 1, ground := Ground.phase }, { on := 2, ground := Ground.phase }, { on := 3, ground := Ground.phase }, { on := 4, ground := Ground.phase }, { on := 5, ground := Ground.phase }, { on := 6, ground := Ground.phase }, { on := 7, ground := Ground.phase }, { on := 8, ground := Ground.phase }, { on := 9, ground := Ground.phase }, { on := 10, ground := Ground.phase }, { on := 11, ground := Ground.phase }, { on := 12, ground := Ground.phase }, { on := 13, ground := Ground.textOnly Departure.lateStores }], guard := none }) (v := ?_) rfl (by kernel_rfl) (by kernel_rfl) (by kernel_rfl) (fun _ _ _ h => h) (Or.inl ⟨by rfl, ?_⟩) (by assumption) ?_
            rotate_left
            · (intro w hSw; (try dsimp only at hSw); go_simp; first | done | with_reducible rfl)
            try simp only [Act.put, List.setIfInBounds_toArray, List.set_cons_zero, List.set_cons_succ]
            refine wpAnyH_take (i := 15) (oi := { dst := some 11, op := Op.assign (Operand.tmp 59), type := 24, pos := "sets.go:87", after := #[{ on := 13, ground := Ground.data }, { on := 14, ground := Ground.chain }, { on := 0, ground := Ground.phase }, { on := 1, ground := Ground.phase }, { on := 2, ground := Ground.phase }, { on := 3, ground := Ground.phase }, { on := 4, ground := Ground.phase }, { on := 5, ground := Ground.phase }, { on := 6, ground := Ground.phase }, { on := 7, ground := Ground.phase }, { on := 8, ground := Ground.phase }, { on := 9, ground := Ground.phase }, { on := 10, ground := Ground.phase }, { on := 11, ground := Ground.phase }, { on := 12, ground := Ground.phase }, { on := 13, ground := Ground.phase }, { on := 14, ground := Ground.phase }], guard := none }) (v := ?_) rfl (by kernel_rfl) (by kernel_rfl) (by kernel_rfl) (fun _ _ _ h => h) (Or.inl ⟨by rfl, ?_⟩) (by assumption) ?_
            rotate_left
            · (intro w hSw; (try dsimp only at hSw); go_simp; first | done | with_reducible rfl)
            try simp only [Act.put, List.setIfInBounds_toArray, List.set_cons_zero, List.set_cons_succ]
            refine wpAnyH_done (by kernel_rfl) ?_ _

            have T6 := Lib.hid (T5.out.keep hb6)
            have OD6 := Lib.hid (OD5.out.keep hb6)
            have SQ : Hid (SubsP L M PS.length (subAll A.1 A.2.1 A.2.2 l0 h0 s0)) := Lib.hid ⟨A, B, l0, h0, s0, HA.out, HB.out, SP.out, rfl⟩
            have zw := T5.out.c.size
            clear hHeld hb6 T5 OD5 SP x0 y0 pa0 pa1 pa2 pb0 pb1 pb2 z0 z1 zba zbb
            generalize subAll A.1 A.2.1 A.2.2 l0 h0 s0 = P at *
            clear ckA ckB HA HB l0 h0 s0
            rcases HPP.out with ⟨big, rfl, rfl⟩ | ⟨small, rfl, own⟩
            · have BIG := Lib.hid big
              clear big HPP
              go_wp2
              exact bodyPost_ret (v := .tuple #[.slice none 0 0, .int .i64 7]) (by simp [results, Try.results84, go_sem, *]) rfl ⟨_, _, rfl, T6.out.below, Lib.hid (Or.inr ⟨C.out, X, [], HX.out, Or.inr (Or.inr ⟨PC.out, PX.out, PS, HP.out.1, Or.inr ⟨P, hi, HP.out.2, SQ.out, BIG.out, rfl, rfl⟩⟩), OwnD.nil _ _ _ _ _⟩)⟩
            · have OP : Hid (w6.ownsRow (cb + 1) 23 3 pv P.length (cells3 P)) := Lib.hid (owns_base own (by simpa [Nat.succ_le_iff] using zw))
              clear own HPP zw
              obtain ⟨pa, pc, rfl⟩ := owns_slice OP.out
              go_wp2_with fail
              go_loopg [8, 13, 14, 65] (P.length + 1) (fun gh v8 _ _ v65 wr => ∃ j : Nat, v65 = .int .i64 j ∧ (j ≤ P.length ∧ P.length - j < gh) ∧ Hid (SbSt w (.slice (some ⟨ba, oa, none⟩) L.length cap) kk ss hh (.slice (some ⟨bb, ob, none⟩) M.length cap') k' s' h' cb (.slice (some ⟨cg, 0, none⟩) X.length rc) X wr) ∧ Hid (OwnD (cb + 1) wr v8 (allP X L PS PS.length ++ pcs X L PS.length (P.take j)) kk ss hh) ∧ Hid (wr.ownsRow (cb + 1) 23 3 (.slice pa P.length pc) P.length (cells3 P)))
              case atStart => exact ⟨0, rfl, ⟨by omega, by omega⟩, T6, Lib.hid (by simpa [pcs] using OD6.out), OP⟩
              case round =>
                obtain ⟨j, rfl, ⟨j0, jg⟩, T7, OD7, OP7⟩ := hrel
                have KG2 := Lib.hid jg
                clear jg T6 OD6 OP
                by_cases hj : j < P.length
                · obtain ⟨x, hx⟩ : ∃ x, P[j]? = some x := ⟨P[j], List.getElem?_eq_getElem hj⟩
                  obtain ⟨pg, rfl⟩ : ∃ pg, pa = some ⟨pg, 0, none⟩ := owns_addr OP7.out (by omega)
                  obtain ⟨p0, p1, p2⟩ := owns_at OP7.out j x hx
                  have HXX := Lib.hid hx
                  clear hx
                  have NB := Lib.hid (below_new wr (.cells #[.int .i64 x.1, .int .i64 x.2.1, .int .i64 x.2.2] 23))
                  have RX := Lib.hid (B3.new (.int .i64 x.1) (.int .i64 x.2.1) (.int .i64 x.2.2) 23 wr)
                  have T8 := Lib.hid (T7.out.keep NB.out)
                  have OD8 := Lib.hid (OD7.out.keep NB.out)
                  have OP8 := Lib.hid (owns_below OP7.out NB.out)
                  have zw := T7.out.c.size
                  go_upto_region 18 with fail
                  generalize wr.alloc (.cells #[.int .i64 x.1, .int .i64 x.2.1, .int .i64 x.2.2] 23) = w8 at *
                  generalize wr.heap.size = rb at *
                  clear NB T7 OD7 OP7 p0 p1 p2
                  have x0 := T8.out.a.c0
                  have y0 := T8.out.c.c0
                  have r0 := RX.out.c0
                  have r1 := RX.out.c1
                  have r2 := RX.out.c2
                  have iX : PS.length ≤ X.length := by have := lx.out; omega
                  have irc : (PS.length : Int) ≤ rc := by omega
                  have iw : IntKind.i64.wrap ((PS.length : Int) + 1) = (PS.length : Int) + 1 := IntWalk.i64_in _ (by have := rk.out; omega)
                  have lcap : (L.length : Int) ≤ cap := by omega
                  have i1 : (PS.length : Int) + 1 ≤ L.length := by omega
                  have i2 : (0 : Int) ≤ (PS.length : Int) + 1 := by omega
                  obtain ⟨oz, hz, hzz⟩ : ∃ oz : Nat, (if cap = PS.length + 1 then some (⟨ba, oa, none⟩ : Addr) else some ⟨ba, oa + (PS.length + 1) * 3, none⟩) = some ⟨ba, oz, none⟩ ∧ Hid (¬ cap = PS.length + 1 → oz = oa + (PS.length + 1) * 3) := by
                    by_cases c : cap = PS.length + 1
                    · exact ⟨oa, by rw [if_pos c], Lib.hid fun h => absurd c h⟩
                    · exact ⟨_, by rw [if_neg c], Lib.hid fun _ => rfl⟩
                  have k0 := T8.out.a.size
                  have k1 := T8.out.c.size
                  have k2 := RX.out.size
                  have S1 : Hid (Src w8 (.slice (some ⟨cg, 0, none⟩) PS.length rc) (X.take PS.length)) := Lib.hid ⟨cg, 0, rc, by rw [List.length_take, Nat.min_eq_left iX], (T8.out.row.lt cg rfl).2, At3.take (fun j y hy => by simpa using owns_at T8.out.row j y hy) _⟩
                  have S3 : Hid (Src w8 (.slice (some ⟨ba, oz, none⟩) (L.length - (PS.length + 1)) (cap - (PS.length + 1))) (L.drop (PS.length + 1))) := Lib.hid (by
                    refine ⟨ba, oz, _, by rw [List.length_drop], Nat.lt_of_lt_of_le hba T8.out.below.size, ?_⟩
                    by_cases c : cap = PS.length + 1
                    · intro j y hy
                      rw [List.getElem?_eq_none (by simp; omega)] at hy; cases hy
                    · rw [hzz.out c]
                      exact (CA.out.under T8.out.below hba).drop _)
                  have fl : [X.take PS.length, [x], L.drop (PS.length + 1)].flatten.length ≤ 1000 := by
                    have h1 := List.length_take_le PS.length X
                    have := rk.out
                    have := lx.out
                    simp only [List.flatten_cons, List.flatten_nil, List.length_append, List.length_nil, List.length_cons, List.length_drop]
                    omega
                  refine wp_region_held_drew (S := (fun w' => w'.cell? ⟨w.heap.size, 0, none⟩ = some (.slice (some ⟨ba, oa, none⟩) L.length cap) ∧ w'.cell? ⟨cb, 0, none⟩ = some (.slice (some ⟨cg, 0, none⟩) X.length rc) ∧ w'.cell? ⟨rb, 0, none⟩ = some (.int .i64 x.1) ∧ w'.cell? ⟨rb, 1, none⟩ = some (.int .i64 x.2.1) ∧ w'.cell? ⟨rb, 2, none⟩ = some (.int .i64 x.2.2))) (by kernel_rfl) ?_ (fun hHeld => ?_)
                  · first | exact hHeld | exact ⟨x0, y0, r0, r1, r2⟩ | (obtain ⟨q0, q1, q2, q3, q4⟩ := hHeld; refine ⟨?_, ?_, ?_, ?_, ?_⟩ <;> simp [go_sem, *]; done) | go_keep
                  refine wpAnyH_take (i := 0) (oi := { dst := some 69, op := Op.fieldAddr 62 (Operand.tmp 6) 0, type := 0, pos := "sets.go:93", after := #[], guard := none }) (v := ?_) rfl (by kernel_rfl) (by kernel_rfl) (by kernel_rfl) (fun _ _ _ h => h) (Or.inl ⟨by rfl, ?_⟩) (by assumption) ?_
                  rotate_left
                  · (intro w hSw; (try dsimp only at hSw); go_simp; first | done | with_reducible rfl)
                  try simp only [Act.put, List.setIfInBounds_toArray, List.set_cons_zero, List.set_cons_succ]
                  refine wpAnyH_take (i := 1) (oi := { dst := some 70, op := Op.load 40 (Operand.tmp 69), type := 40, pos := "sets.go:93", after := #[{ on := 0, ground := Ground.data }], guard := none }) (v := ?_) rfl (by kernel_rfl) (by kernel_rfl) (by kernel_rfl) (fun _ _ _ h => h) (Or.inl ⟨by rfl, ?_⟩) (by assumption) ?_
                  rotate_left
                  · (intro w hSw; (try dsimp only at hSw); go_simp; first | done | with_reducible rfl)
                  try simp only [Act.put, List.setIfInBounds_toArray, List.set_cons_zero, List.set_cons_succ]
                  refine wpAnyH_take (i := 2) (oi := { dst := some 71, op := Op.move (Operand.tmp 9), type := 3, pos := "sets.go:93", after := #[], guard := none }) (v := ?_) rfl (by kernel_rfl) (by kernel_rfl) (by kernel_rfl) (fun _ _ _ h => h) (Or.inl ⟨by rfl, ?_⟩) (by assumption) ?_
                  rotate_left
                  · (intro w hSw; (try dsimp only at hSw); go_simp; first | done | with_reducible rfl)
                  try simp only [Act.put, List.setIfInBounds_toArray, List.set_cons_zero, List.set_cons_succ]
                  refine wpAnyH_take (i := 3) (oi := { dst := some 72, op := Op.slice 40 (Operand.tmp 70) none (some (Operand.tmp 71)) none, type := 40, pos := "sets.go:93", after := #[{ on := 1, ground := Ground.data }, { on := 2, ground := Ground.data }], guard := none }) (v := ?_) rfl (by kernel_rfl) (by kernel_rfl) (by kernel_rfl) (fun _ _ _ h => h) (Or.inl ⟨by rfl, ?_⟩) (by assumption) ?_
                  rotate_left
                  · (intro w hSw; (try dsimp only at hSw); go_simp; first | done | with_reducible rfl)
                  try simp only [Act.put, List.setIfInBounds_toArray, List.set_cons_zero, List.set_cons_succ]
                  refine wpAnyH_take (i := 4) (oi := { dst := some 73, op := Op.load 23 (Operand.tmp 13), type := 23, pos := "sets.go:93", after := #[], guard := none }) (v := ?_) rfl (by kernel_rfl) (by kernel_rfl) (by kernel_rfl) (fun _ _ _ h => h) (Or.inl ⟨by rfl, ?_⟩) (by assumption) ?_
                  rotate_left
                  · (intro w hSw; (try dsimp only at hSw); go_simp; first | done | with_reducible rfl)
                  try simp only [Act.put, List.setIfInBounds_toArray, List.set_cons_zero, List.set_cons_succ]
                  refine wpAnyH_take (i := 6) (oi := { dst := some 75, op := Op.fieldAddr 62 (Operand.tmp 2) 0, type := 0, pos := "sets.go:93", after := #[], guard := none }) (v := ?_) rfl (by kernel_rfl) (by kernel_rfl) (by kernel_rfl) (fun _ _ _ h => h) (Or.inl ⟨by rfl, ?_⟩) (by assumption) ?_
                  rotate_left
                  · (intro w hSw; (try dsimp only at hSw); go_simp; first | done | with_reducible rfl)
                  try simp only [Act.put, List.setIfInBounds_toArray, List.set_cons_zero, List.set_cons_succ]
                  refine wpAnyH_take (i := 7) (oi := { dst := some 76, op := Op.load 40 (Operand.tmp 75), type := 40, pos := "sets.go:93", after := #[{ on := 6, ground := Ground.data }], guard := none }) (v := ?_) rfl (by kernel_rfl) (by kernel_rfl) (by kernel_rfl) (fun _ _ _ h => h) (Or.inl ⟨by rfl, ?_⟩) (by assumption) ?_
                  rotate_left
                  · (intro w hSw; (try dsimp only at hSw); go_simp; first | done | with_reducible rfl)
                  try simp only [Act.put, List.setIfInBounds_toArray, List.set_cons_zero, List.set_cons_succ]
                  refine wpAnyH_take (i := 8) (oi := { dst := some 77, op := Op.move (Operand.tmp 9), type := 3, pos := "sets.go:93", after := #[], guard := none }) (v := ?_) rfl (by kernel_rfl) (by kernel_rfl) (by kernel_rfl) (fun _ _ _ h => h) (Or.inl ⟨by rfl, ?_⟩) (by assumption) ?_
                  rotate_left
                  · (intro w hSw; (try dsimp only at hSw); go_simp; first | done | with_reducible rfl)
                  try simp only [Act.put, List.setIfInBounds_toArray, List.set_cons_zero, List.set_cons_succ]
                  refine wpAnyH_take (i := 9) (oi := { dst := some 78, op := Op.binOp BinOp.add 3 (Operand.tmp 77) (Operand.const (Value.int IntKind.i64 1)) 3, type := 3, pos := "sets.go:93", after := #[{ on := 8, ground := Ground.data }], guard := none }) (v := ?_) rfl (by kernel_rfl) (by kernel_rfl) (by kernel_rfl) (fun _ _ _ h => h) (Or.inl ⟨by rfl, ?_⟩) (by assumption) ?_
                  rotate_left
                  · (intro w hSw; (try dsimp only at hSw); go_simp; first | done | with_reducible rfl)
                  try simp only [Act.put, List.setIfInBounds_toArray, List.set_cons_zero, List.set_cons_succ]
                  refine wpAnyH_take (i := 10) (oi := { dst := some 79, op := Op.slice 40 (Operand.tmp 76) (some (Operand.tmp 78)) none none, type := 40, pos := "sets.go:93", after := #[{ on := 7, ground := Ground.data }, { on := 9, ground := Ground.data }], guard := none }) (v := ?_) rfl (by kernel_rfl) (by kernel_rfl) (by kernel_rfl) (fun _ _ _ h => h) (Or.inl ⟨by rfl, ?_⟩) (by assumption) ?_
                  rotate_left
                  · (intro w hSw; (try dsimp only at hSw); go_simp; first | done | with_reducible rfl)
                  try simp only [Act.put, List.setIfInBounds_toArray, List.set_cons_zero, List.set_cons_succ]
                  refine wpAnyH_ready (rs := [5]) (by kernel_rfl) (by simp) ?_
                  refine AllReadyH.cons (o := { dst := some 74, op := Op.buildSlice 40 1 #[(0, Operand.tmp 73)], type := 40, pos := "sets.go:93", after := #[{ on := 4, ground := Ground.data }], guard := none }) rfl (fun K hK => ?_) AllReadyH.nil
                  go_simp
                  refine hK.out _ _ ?_ (fun hHeld5 => ?_)
                  · first | exact hHeld | exact ⟨x0, y0, r0, r1, r2⟩ | (obtain ⟨q0, q1, q2, q3, q4⟩ := hHeld; refine ⟨?_, ?_, ?_, ?_, ?_⟩ <;> simp [go_sem, *]; done) | go_keep
                  clear hK K hHeld
                  have hHeld := hHeld5
                  clear hHeld5
                  try simp only [Act.put, List.setIfInBounds_toArray, List.set_cons_zero, List.set_cons_succ]
                  refine wpAnyH_ready (rs := [11]) (by kernel_rfl) (by simp) ?_
                  refine AllReadyH.cons (o := { dst := some 80, op := Op.buildSlice 164 3 #[(0, Operand.tmp 72), (1, Operand.tmp 74), (2, Operand.tmp 79)], type := 164, pos := "sets.go:93", after := #[{ on := 3, ground := Ground.data }, { on := 5, ground := Ground.data }, { on := 10, ground := Ground.data }], guard := none }) rfl (fun K hK => ?_) AllReadyH.nil
                  go_simp
                  refine hK.out _ _ ?_ (fun hHeld11 => ?_)
                  · first | exact hHeld | exact ⟨x0, y0, r0, r1, r2⟩ | (obtain ⟨q0, q1, q2, q3, q4⟩ := hHeld; refine ⟨?_, ?_, ?_, ?_, ?_⟩ <;> simp [go_sem, *]; done) | go_keep
                  clear hK K hHeld
                  have hHeld := hHeld11
                  clear hHeld11
                  try simp only [Act.put, List.setIfInBounds_toArray, List.set_cons_zero, List.set_cons_succ]
                  refine wpAnyH_ready (rs := [12]) (by kernel_rfl) (by simp) ?_
                  refine AllReadyH.cons (o := { dst := some 81, op := Op.call { callee := Callee.value (Operand.func 154), args := #[Operand.tmp 80], argTypes := #[164] }, type := 40, pos := "sets.go:93", after := #[{ on := 11, ground := Ground.data }], guard := none }) rfl (fun K hK => ?_) AllReadyH.nil
                  go_simp
                  refine (concatR_any (w8.heap.size + 1) 0 3 [X.take PS.length, [x], L.drop (PS.length + 1)] _ (by simp) (Lib.hid (three_src S1.out S3.out)) (by simp) fl).mono ?_
                  rintro e w9 ⟨v9, rfl, O9, hb9'⟩
                  have hb9 : Below w8.heap.size w8 w9 := (to_drew ((below_new w8 _).trans ((below_new _ _).mono (by simp)))).trans (hb9'.mono (by simp; omega))
                  obtain ⟨D9, HD9⟩ : ∃ D9, Hid (X.take PS.length ++ [x] ++ L.drop (PS.length + 1) = D9) := ⟨_, Lib.hid rfl⟩
                  have Q9 : Hid (w9.ownsRow w8.heap.size 23 3 v9 D9.length (cells3 D9)) := Lib.hid (by
                    have h := owns_base O9.out (base' := w8.heap.size) (by simp; omega)
                    have e : [X.take PS.length, [x], L.drop (PS.length + 1)].flatten = X.take PS.length ++ [x] ++ L.drop (PS.length + 1) := by simp
                    rw [e, HD9.out] at h; exact h)
                  have D9l : D9.length ≤ 1000 := by
                    have e : [X.take PS.length, [x], L.drop (PS.length + 1)].flatten = X.take PS.length ++ [x] ++ L.drop (PS.length + 1) := by simp
                    rw [← HD9.out, ← e]; exact fl
                  have D9n : ¬ D9.length = 0 := by rw [← HD9.out]; simp
                  obtain ⟨a9, c9, rfl⟩ := owns_slice Q9.out
                  obtain ⟨g9, rfl⟩ := owns_addr Q9.out D9n
                  have T9 := Lib.hid (T8.out.keep hb9)
                  have OD9 := Lib.hid (OD8.out.keep hb9)
                  have OP9 := Lib.hid (owns_below OP8.out hb9)
                  clear O9 hb9'
                  go_wp2_with fail
                  refine hK.out _ _ ?_ (fun hHeld12 => ?_)
                  · exact ⟨(hb9.cell (p := ⟨w.heap.size, 0, none⟩) (by first | (simp; done) | (simp; omega) | omega)).trans x0, (hb9.cell (p := ⟨cb, 0, none⟩) (by first | (simp; done) | (simp; omega) | omega)).trans y0, (hb9.cell (p := ⟨rb, 0, none⟩) (by first | (simp; done) | (simp; omega) | omega)).trans r0, (hb9.cell (p := ⟨rb, 1, none⟩) (by first | (simp; done) | (simp; omega) | omega)).trans r1, (hb9.cell (p := ⟨rb, 2, none⟩) (by first | (simp; done) | (simp; omega) | omega)).trans r2⟩
                  clear hK K hHeld
                  have hHeld := hHeld12
                  clear hHeld12
                  try simp only [Act.put, List.setIfInBounds_toArray, List.set_cons_zero, List.set_cons_succ]
                  refine wpAnyH_take (i := 13) (oi := { dst := some 14, op := Op.assign (Operand.tmp 81), type := 40, pos := "sets.go:93", after := #[{ on := 12, ground := Ground.data }, { on := 12, ground := Ground.chain }, { on := 0, ground := Ground.phase }, { on := 1, ground := Ground.phase }, { on := 2, ground := Ground.phase }, { on := 3, ground := Ground.phase }, { on := 4, ground := Ground.phase }, { on := 5, ground := Ground.phase }, { on := 6, ground := Ground.phase }, { on := 7, ground := Ground.phase }, { on := 8, ground := Ground.phase }, { on := 9, ground := Ground.phase }, { on := 10, ground := Ground.phase }, { on := 11, ground := Ground.phase }, { on := 12, ground := Ground.phase }], guard := none }) (v := ?_) rfl (by kernel_rfl) (by kernel_rfl) (by kernel_rfl) (fun _ _ _ h => h) (Or.inl ⟨by rfl, ?_⟩) (by assumption) ?_
                  rotate_left
                  · (intro w hSw; (try dsimp only at hSw); go_simp; first | done | with_reducible rfl)
                  try simp only [Act.put, List.setIfInBounds_toArray, List.set_cons_zero, List.set_cons_succ]
                  refine wpAnyH_done (by kernel_rfl) ?_ _

                  have zb := T8.out.c.size
                  have sz9 := hb9.size
                  clear hHeld hb9 T8 OD8 OP8 x0 y0 r0 r1 r2 hz S1 S3 iX irc iw lcap i1 i2 fl
                  have x0 := T9.out.a.c0
                  have x1 := T9.out.a.c1
                  have x2 := T9.out.a.c2
                  have x3 := T9.out.a.c3
                  go_wp2_with fail
                  refine (with_any _ kk ss hh g9 0 c9 D9 _ (Q9.out.lt g9 rfl).2 (Lib.hid (fun j y hy => by simpa using owns_at Q9.out j y hy)) D9l ⟨_, _, _, rfl⟩).mono ?_
                  rintro e w10 ⟨dv, rfl, O10, hb10⟩
                  have T10 := Lib.hid (T9.out.keep hb10)
                  have OP10 := Lib.hid (owns_below OP9.out hb10)
                  obtain ⟨us, eu, ru, xu⟩ := OD9.out.keep hb10
                  have EU := Lib.hid eu
                  have RU := Lib.hid ru
                  have XU := Lib.hid xu
                  obtain ⟨da, dc, rfl⟩ := owns_slice O10.out
                  have ul : us.length ≤ 5000 := by
                    have h1 := allP_len HP.out.2 (C := X) (L := L) PS.length
                    have h2 : (pcs X L PS.length (P.take j)).length ≤ 1000 := by
                      unfold pcs
                      have := List.length_take_le j P
                      rw [List.length_map]; omega
                    have := rk.out
                    have h3 := EU.out
                    rw [List.length_append] at h3
                    omega
                  have zc := T10.out.c.size
                  have OW10 : Hid (w10.ownsRow (cb + 1) 23 3 (.slice da D9.length dc) D9.length (cells3 D9)) := Lib.hid (owns_base O10.out (by omega))
                  clear eu ru xu hb10 T9 OD9 OP9 O10 x0 x1 x2 x3 Q9
                  go_wp2_with (first | (at_builtin; refine wpList_append_own _ rfl (.tmp 82) (.tmp 86) 77 rfl (cb + 1) 62 i1 (.agg #[.slice none 0 0, .int .i64 0, .int .i64 0, .int .i64 0]) 4 48 Try.underlying77 ji jz0 jz1 jz2 rfl (by decide) _ us.length (cells4 us kk ss hh) rfl (RU.out.alloc _) ⟨w10.heap.size, 0, none⟩ 1 1 (cells4 [.slice da D9.length dc] kk ss hh) rfl rfl ?d1 ?d2 ?d3 ?d4 ?d5 ?_))
                  case d1 => exact World.news_of_block (cs := #[.slice da D9.length dc, .int .i64 kk, .int .i64 ss, .int .i64 hh]) (t := 62) (fr := (0, 0)) (heap_alloc_new w10 _)
                  case d2 => intro u hu; simp [cells4] at hu; rcases hu with rfl | rfl | rfl | rfl <;> rfl
                  case d3 => unfold maxLen; omega
                  case d4 => omega
                  case d5 => simp; omega
                  intro v11 w11 own11 grow11 _
                  have b11 : Below (cb + 1) w10 w11 := (((Below.refl _ _).alloc (by omega) _).trans ((Below.refl _ _).grown grow11 (by simp; omega) (fun g hg => (RU.out.lt g hg).1)))
                  have T11 := Lib.hid (T10.out.under b11 (by omega))
                  have OP11 := Lib.hid (owns_kept (OP10.out.alloc _) (RU.out.alloc _) grow11)
                  have OD11 : Hid (OwnD (cb + 1) w11 v11 (allP X L PS PS.length ++ pcs X L PS.length (P.take (j + 1))) kk ss hh) := Lib.hid (by
                    have h := OwnD.add EU.out RU.out XU.out OW10.out own11 grow11
                    have e : P.take (j + 1) = P.take j ++ [x] := by rw [List.take_add_one, HXX.out]; rfl
                    rw [e]
                    unfold pcs at h ⊢
                    rw [List.map_append, ← List.append_assoc, List.map_singleton, HD9.out]
                    exact h)
                  have jw : IntKind.i64.wrap ((j : Int) + 1) = (j : Int) + 1 := IntWalk.i64_in _ (by omega)
                  clear own11 grow11 b11 T10 OP10 EU RU XU OW10
                  go_wp2_with fail
                  go_roundg (P.length - j)
                  case measure => exact KG2.out
                  case rel => exact ⟨j + 1, by push_cast; rfl, ⟨by omega, by omega⟩, T11, OD11, OP11⟩
                · obtain e : j = P.length := by omega
                  have jw : IntKind.i64.wrap ((PS.length : Int) + 1) = (PS.length : Int) + 1 := IntWalk.i64_in _ (by have := rk.out; omega)
                  have HP' : Hid ((∀ i Q, (PS ++ [P])[i]? = some Q → SubsP L M i Q) ∧ ∀ Q ∈ PS ++ [P], Q.length ≤ 1000) := Lib.hid (by
                    refine ⟨fun i Q hQ => ?_, fun Q hQ => ?_⟩
                    · by_cases c : i < PS.length
                      · rw [List.getElem?_append_left c] at hQ; exact HP.out.1 i Q hQ
                      · rw [List.getElem?_append_right (by omega)] at hQ
                        have e : i = PS.length := by
                          have := (List.getElem?_eq_some_iff.1 hQ).1
                          simp at this; omega
                        subst e
                        simp at hQ; subst hQ; exact SQ.out
                    · rcases List.mem_append.1 hQ with h | h
                      · exact HP.out.2 Q h
                      · simp at h; subst h; exact small)
                  have OD8 : Hid (OwnD (cb + 1) wr u8 (allP X L (PS ++ [P]) (PS ++ [P]).length) kk ss hh) := Lib.hid (by
                    have h := OD7.out
                    rw [e, List.take_length] at h
                    rw [List.length_append, List.length_singleton, allP, allP_append P (Nat.le_refl _)]
                    have e2 : (PS ++ [P]).getD PS.length [] = P := by simp [List.getD]
                    rw [e2]; exact h)
                  go_wp2_with fail
                  go_roundg (L.length - PS.length)
                  case measure => exact KG.out
                  case rel => exact ⟨PS ++ [P], by simp, ⟨by simp; omega, by simp; omega⟩, HP', T7, OD8⟩
          · obtain e : PS.length = L.length := by omega
            have BE := T5.out.below
            have OE := OD5.out.base (b' := w.heap.size) (by have := T5.out.cbl; omega)
            go_wp2
            exact bodyPost_ret (v := .tuple #[u8, .int .i64 0]) (by simp [results, Try.results84, go_sem, *]) rfl ⟨_, _, rfl, BE, Lib.hid (Or.inr ⟨C.out, X, _, HX.out, Or.inr (Or.inr ⟨PC.out, PX.out, PS, HP.out.1, Or.inl ⟨e, HP.out.2, rfl, rfl⟩⟩), OE⟩)⟩
  · have c' : (dboth L k s h M k' s' h' != 0) = true := by simp [c]
    have C := Lib.hid c
    obtain ⟨rfl, rfl, rfl, rfl, rfl⟩ : er = dboth L k s h M k' s' h' ∧ rv = .slice none 0 0 ∧ kk = 0 ∧ ss = 0 ∧ hh = 0 := by
      rcases hE.out with ⟨h0, _⟩ | ⟨_, h1, h2, h3, h4, h5⟩
      · exact absurd h0 c
      · exact ⟨h1, h2, h3, h4, h5⟩
    have B1 := Lib.hid R1.1
    clear c hE hb1 R1 S0
    go_wp2
    refine bodyPost_ret (v := .tuple #[.slice none 0 0, .int .i64 (dboth L k s h M k' s' h')]) (by simp [results, Try.results84, go_sem, *]) rfl ⟨_, _, rfl, ?_, Lib.hid (Or.inl ⟨C.out, rfl, rfl⟩)⟩
    exact B1.out.trans ((below_new _ _).mono B1.out.size)
end Go.Proofs.Ytmelknodmbdhpaa
