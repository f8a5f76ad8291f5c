/-
  Part 9: SubE, SubF, NumA, NumB, LawOf, LawOr, DomA, DomB.
-/
import Derived.Test.YtabgphlpdoockaaDp3
import Derived.Test.YtabgphlpdoockaaDp8
import Derived.BigQuiet
import Derived.Deep.CutBlock
import Derived.Deep.DeepCutAuto
import Derived.Deep.DrawnRows
import Derived.Deep.LoopGhost
import Derived.Deep.QuietTactic
import Derived.Deep.RegionHeld3
import Derived.Deep.RegionWith
import Derived.Lib.Hide
import Derived.LoopIn
import Derived.LoopNIn
import Derived.Maps.AppendAt
import Derived.OwnWalkIn
import Derived.RangeFuncBound
import Derived.RangeFuncBox
import Derived.RangeFuncCalls
import Derived.RangeFuncLeaves
import Derived.RangeFuncNested
import Derived.Shelf.Abstract
import Derived.TacticsInMore
import Derived.WalkKit
import Derived.WalkLawsBesides
import Derived.WalkMore
import Derived.WalkSpells
namespace Go.Proofs.Ytabgphlpdoockaa
open Go.RowKit
theorem upto_val {l h t p : Int} (hlt : l < h) (ht : 1 ≤ t) (hd : (h - l) % t = 0) (p0 : 0 < p) (p1 : p < t) : uptoI (l + p) h t = h - t + p := by
  obtain ⟨q, hq⟩ := Int.dvd_of_emod_eq_zero hd
  have q1 : 1 ≤ q := by
    by_cases c : q ≤ 0
    · have := Int.mul_nonneg (show 0 ≤ t by omega) (show 0 ≤ -q by omega)
      rw [Int.mul_neg] at this; omega
    · omega
  have e1 : h - (l + p) = (t - p) + t * (q - 1) := by rw [Int.mul_sub, Int.mul_one]; omega
  have e2 : (h - (l + p)) / t = q - 1 := by
    rw [e1, Int.add_mul_ediv_left _ _ (by omega), Int.ediv_eq_zero_of_lt (by omega) (by omega)]; omega
  have e3 : 0 ≤ t * (q - 1) := Int.mul_nonneg (by omega) (by omega)
  unfold uptoI
  rw [if_neg (by omega), e2, Int.mul_comm, Int.mul_sub, Int.mul_one]
  omega
theorem midN_len {l h m t : Int} {dn : Bool} {L : List R3} (hle : l + t ≤ h) : ∀ k, (midN l h m t dn L k).length = L.length + k
  | 0 => rfl
  | k + 1 => by
    have ih := midN_len (m := m) (dn := dn) (L := L) hle k
    simp only [midN, addP]
    rw [if_pos (by omega), List.length_append, ih]
    simp; omega
theorem step_next {l h s : Int} (hk : chk l h s = 0) (hlt : l < h) : l + magA s ≤ h ∧ (h - l) % magA s = 0 := by
  rcases chk_zero hk with ⟨rfl, rfl, rfl⟩ | ⟨_, _, _, _, _, _, m1, _, hd, _⟩
  · omega
  · refine ⟨?_, hd⟩
    have := Int.le_of_dvd (by omega) (Int.dvd_of_emod_eq_zero hd)
    omega
theorem single_step {l h s : Int} (hk : chk l h s = 0) (hle : l ≤ h) (hn : ¬ l < h) (m : Int) (_hm : 1 ≤ m) : subK (magA s) m = 0 := by
  rcases chk_zero hk with ⟨rfl, rfl, rfl⟩ | ⟨_, _, _, _, _, _, _, _, _, hs⟩
  · omega
  · rw [hs (by omega), show magA 1 = 1 from rfl]
    unfold subK; simp
theorem subK_bd {t m : Int} (hm : 1 ≤ m) (ht : 1 ≤ t) : t / m ≤ (subK t m : Int) + 1 ∧ (subK t m : Int) ≤ t / m := by
  have h0 : 0 ≤ (t - 1) / m := Int.ediv_nonneg (by omega) (by omega)
  have h1 : (t - 1) / m ≤ t / m := Int.ediv_le_ediv (by omega) (by omega)
  have h2 : t / m ≤ (t - 1) / m + 1 := by
    have := Int.ediv_le_ediv (show 0 < m by omega) (show t ≤ (t - 1) + 1 * m by omega)
    rwa [Int.add_mul_ediv_right _ _ (by omega)] at this
  unfold subK; omega
/-- the reference's Subtract: its boxes, and the list so far -/
structure RSt (w : World) (l1 h1 s1 l h s : Int) (cb base : Nat) (v : Value) (L : List R3) (wx : World) : Prop where
  below : Below w.heap.size w wx
  a : B3 w.heap.size (.int .i64 l1) (.int .i64 h1) (.int .i64 s1) wx
  c : B3 cb (.int .i64 l) (.int .i64 h) (.int .i64 s) wx
  own : wx.ownsRow base 23 3 v L.length (cells3 L)
  size : base ≤ wx.heap.size
  lt : cb < base
  lt2 : w.heap.size < base
theorem RSt.keep {w : World} {l1 h1 s1 l h s : Int} {cb base : Nat} {v : Value} {L : List R3} {w1 w2 : World} (r : RSt w l1 h1 s1 l h s cb base v L w1) (hb : Below w1.heap.size w1 w2) : RSt w l1 h1 s1 l h s cb base v L w2 :=
  ⟨r.below.trans (hb.mono r.below.size), r.a.keep hb, r.c.keep hb, owns_below r.own hb, Nat.le_trans r.size hb.size, r.lt, r.lt2⟩
theorem b3_under {g B : Nat} {a b c : Value} {w w1 : World} (k : B3 g a b c w) (hb : Below B w w1) (hg : g < B) : B3 g a b c w1 :=
  ⟨Nat.lt_of_lt_of_le k.size hb.size, (hb.cell (p := ⟨g, 0, none⟩) hg).trans k.c0, (hb.cell (p := ⟨g, 1, none⟩) hg).trans k.c1, (hb.cell (p := ⟨g, 2, none⟩) hg).trans k.c2,
    (hb.frozen (p := ⟨g, 0, none⟩) hg).trans k.f0, (hb.frozen (p := ⟨g, 1, none⟩) hg).trans k.f1, (hb.frozen (p := ⟨g, 2, none⟩) hg).trans k.f2⟩
theorem RSt.put {w : World} {l1 h1 s1 l h s : Int} {cb base : Nat} {v : Value} {L : List R3} {w1 : World} (r : Hid (RSt w l1 h1 s1 l h s cb base v L w1)) (lo hi st : Int) (dn : Bool) (hn : L.length ≤ 5000) :
    Calls Try.prog 130 #[v, .agg #[.int .i64 (nL lo hi), .int .i64 (nH lo hi), .int .i64 (nS lo hi st dn)]] w1 fun e w2 => ∃ v2, e = .returned v2 ∧ Hid (RSt w l1 h1 s1 l h s cb base v2 (addP L lo hi st dn) w2) :=
  (put_nrm v L lo hi st dn base w1 r.out.own r.out.size hn).mono fun _ _ ⟨v2, he, ho, hb⟩ => ⟨v2, he, r.out.below.trans (hb.mono (by have := r.out.lt2; omega)), b3_under r.out.a hb r.out.lt2, b3_under r.out.c hb r.out.lt, ho, Nat.le_trans r.out.size hb.size, r.out.lt, r.out.lt2⟩
set_option maxRecDepth 100000 in
set_option maxHeartbeats 6400000 in
theorem refSubtract_ok (l1 h1 s1 l2 h2 s2 : Int) (w : World) (hA : Hid (chk l1 h1 s1 = 0)) (hB : Hid (chk l2 h2 s2 = 0)) :
    Calls Try.prog 46 #[.agg #[.int .i64 l1, .int .i64 h1, .int .i64 s1], .agg #[.int .i64 l2, .int .i64 h2, .int .i64 s2]] w (SubDir l1 h1 s1 l2 h2 s2 w) := by
  have bA := chk_bounds hA.out
  go_enter Try.func46, Try.ntmps46
  go_wp2_with fail
  refine (refIntersect_dir _ _ _ _ _ _ _ hA hB).mono ?_
  rintro e w1 ⟨l, h, s, hF, rfl, hb1⟩
  have R1 := Lib.hid (res22 hb1)
  have HF : Hid (InterF l1 h1 s1 l2 h2 s2 l h s) := Lib.hid hF
  have bC := chk_bounds hF.1
  have HCH := Lib.hid hF.1
  clear hb1 hF
  have z1 := R1.out.1.size
  have RS : Hid (RSt w l1 h1 s1 l h s w1.heap.size (w1.heap.size + 1) (.slice (some ⟨w1.heap.size + 1, 0, none⟩) 0 0) [] ((w1.alloc (.cells #[.int .i64 l, .int .i64 h, .int .i64 s] 23)).alloc (.cells #[] 23))) := Lib.hid
    ⟨(R1.out.1.trans ((below_new _ _).mono z1)).trans ((below_new _ _).mono (by simp; omega)), (R1.out.2.1.keep (below_new _ _)).keep (below_new _ _), (B3.new _ _ _ _ _).keep (below_new _ _),
      by have q := World.ownsRow_lit (base := w1.heap.size + 1) (e := 23) (size := 3) (w1.alloc (.cells #[.int .i64 l, .int .i64 h, .int .i64 s] 23)) #[] 0 (by simp) (by unfold maxLen; omega) (by simp)
         have e1 : (w1.alloc (.cells #[.int .i64 l, .int .i64 h, .int .i64 s] 23)).heap.size = w1.heap.size + 1 := by simp
         rw [e1] at q
         exact q, by simp, by omega, by omega⟩
  go_upto_region 5 with fail
  clear R1 z1
  generalize ((w1.alloc (.cells #[.int .i64 l, .int .i64 h, .int .i64 s] 23)).alloc (.cells #[] 23)) = w3 at *
  generalize Value.slice (some ⟨w1.heap.size + 1, 0, none⟩) 0 0 = v0 at *
  generalize w1.heap.size + 1 = base at *
  generalize w1.heap.size = cb at *
  have x0 := RS.out.a.c0
  have y0 := RS.out.c.c0
  have x1 := RS.out.a.c1
  have y1 := RS.out.c.c1
  have x2 := RS.out.a.c2
  have y2 := RS.out.c.c2
  go_wp2_with fail
  refine (refIsEmpty_any _ _ _ _).mono ?_
  rintro e w4 ⟨rfl, hb4⟩
  have S4 := Lib.hid (RS.out.keep hb4)
  clear hb4 RS
  clear x0 x1 x2 y0 y1 y2
  have x0 := S4.out.a.c0
  have y0 := S4.out.c.c0
  have x1 := S4.out.a.c1
  have y1 := S4.out.c.c1
  have x2 := S4.out.a.c2
  have y2 := S4.out.c.c2
  by_cases cl : l ≤ h
  · have EL : Hid (subAll l1 h1 s1 l h s = subL l1 h1 (magA s1) l h (magA s) (decide (s1 < 0))) := Lib.hid (if_pos cl)
    rw [show reqB l h s 1 0 1 = false by unfold reqB; simp; omega]
    have CLE := Lib.hid cl
    clear cl
    have zz4 : w.heap.size < w4.heap.size := S4.out.a.size
    go_upto_region 7 with fail
    refine wp_region_held_drew (S := (fun w' => w'.cell? ⟨w.heap.size, 0, none⟩ = some (.int .i64 l1) ∧ w'.cell? ⟨w.heap.size, 1, none⟩ = some (.int .i64 h1) ∧ w'.cell? ⟨w.heap.size, 2, none⟩ = some (.int .i64 s1))) (by kernel_rfl) ?_ (fun hHeld => ?_)
    · first | exact hHeld | exact ⟨x0, x1, x2⟩ | (simp [go_sem, *]; done)
    refine wpAnyH_take (i := 0) (oi := { dst := some 29, op := Op.load 23 (Operand.tmp 2), type := 23, pos := "ref.go:327", after := #[], guard := none }) (v := ?_) rfl (by kernel_rfl) (by kernel_rfl) (by kernel_rfl) (fun _ _ _ h => h) (Or.inl ⟨by rfl, ?_⟩) (by assumption) ?_
    rotate_left
    · (intro w hSw; (try dsimp only at hSw); go_simp; first | done | with_reducible rfl)
    try simp only [Act.put, List.setIfInBounds_toArray, List.set_cons_zero, List.set_cons_succ]
    refine wpAnyH_take (i := 2) (oi := { dst := some 31, op := Op.fieldAddr 23 (Operand.tmp 2) 2, type := 0, pos := "ref.go:327", after := #[{ on := 5, ground := Ground.gcOnly Departure.lateStores }], guard := none }) (v := ?_) rfl (by kernel_rfl) (by kernel_rfl) (by kernel_rfl) (fun _ _ _ h => h) (Or.inl ⟨by rfl, ?_⟩) (by assumption) ?_
    rotate_left
    · (intro w hSw; (try dsimp only at hSw); go_simp; first | done | with_reducible rfl)
    try simp only [Act.put, List.setIfInBounds_toArray, List.set_cons_zero, List.set_cons_succ]
    refine wpAnyH_take (i := 3) (oi := { dst := some 32, op := Op.load 3 (Operand.tmp 31), type := 3, pos := "ref.go:327", after := #[{ on := 2, ground := Ground.data }, { on := 5, ground := Ground.gcOnly Departure.lateStores }], guard := none }) (v := ?_) rfl (by kernel_rfl) (by kernel_rfl) (by kernel_rfl) (fun _ _ _ h => h) (Or.inl ⟨by rfl, ?_⟩) (by assumption) ?_
    rotate_left
    · (intro w hSw; (try dsimp only at hSw); go_simp; first | done | with_reducible rfl)
    try simp only [Act.put, List.setIfInBounds_toArray, List.set_cons_zero, List.set_cons_succ]
    refine wpAnyH_take (i := 4) (oi := { dst := some 33, op := Op.binOp BinOp.lss 3 (Operand.tmp 32) (Operand.const (Value.int IntKind.i64 0)) 3, type := 4, pos := "ref.go:327", after := #[{ on := 3, ground := Ground.data }, { on := 5, ground := Ground.gcOnly Departure.lateStores }], guard := none }) (v := ?_) rfl (by kernel_rfl) (by kernel_rfl) (by kernel_rfl) (fun _ _ _ h => h) (Or.inl ⟨by rfl, ?_⟩) (by assumption) ?_
    rotate_left
    · (intro w hSw; (try dsimp only at hSw); go_simp; first | done | with_reducible rfl)
    try simp only [Act.put, List.setIfInBounds_toArray, List.set_cons_zero, List.set_cons_succ]
    refine wpAnyH_ready (rs := [1]) (by kernel_rfl) (by simp) ?_
    refine AllReadyH.cons (o := { dst := some 30, op := Op.call { callee := Callee.value (Operand.func 112), args := #[Operand.tmp 29], argTypes := #[23] }, type := 3, pos := "ref.go:327", after := #[{ on := 0, ground := Ground.data }], guard := none }) rfl (fun K hK => ?_) AllReadyH.nil
    go_simp
    refine (refStep_any _ _ _ _ (by omega) (by omega)).mono ?_
    rintro e w5 ⟨rfl, hb5⟩
    have hb5 : Below w4.heap.size w4 w5 := ⟨hb5.os, hb5.tape, hb5.output, hb5.size, hb5.block⟩
    have S5 := Lib.hid (S4.out.keep hb5)
    go_wp2_with fail
    refine hK.out _ _ ?_ (fun hHeld1 => ?_)
    · (obtain ⟨q0, q1, q2⟩ := hHeld; exact ⟨(hb5.cell (p := ⟨w.heap.size, 0, none⟩) (by first | (simp; done) | (simp; omega))).trans q0, (hb5.cell (p := ⟨w.heap.size, 1, none⟩) (by first | (simp; done) | (simp; omega))).trans q1, (hb5.cell (p := ⟨w.heap.size, 2, none⟩) (by first | (simp; done) | (simp; omega))).trans q2⟩)
    clear hK K hHeld
    have hHeld := hHeld1
    clear hHeld1
    try simp only [Act.put, List.setIfInBounds_toArray, List.set_cons_zero, List.set_cons_succ]
    refine wpAnyH_take (i := 5) (oi := { dst := some 9, op := Op.assign (Operand.tmp 30), type := 3, pos := "ref.go:327", after := #[{ on := 1, ground := Ground.data }, { on := 1, ground := Ground.chain }, { on := 0, ground := Ground.phase }, { on := 1, ground := Ground.phase }, { on := 2, ground := Ground.textOnly Departure.lateStores }, { on := 3, ground := Ground.textOnly Departure.lateStores }, { on := 4, ground := Ground.textOnly Departure.lateStores }], guard := none }) (v := ?_) rfl (by kernel_rfl) (by kernel_rfl) (by kernel_rfl) (fun _ _ _ h => h) (Or.inl ⟨by rfl, ?_⟩) (by assumption) ?_
    rotate_left
    · (intro w hSw; (try dsimp only at hSw); go_simp; first | done | with_reducible rfl)
    try simp only [Act.put, List.setIfInBounds_toArray, List.set_cons_zero, List.set_cons_succ]
    refine wpAnyH_take (i := 6) (oi := { dst := some 10, op := Op.assign (Operand.tmp 33), type := 4, pos := "ref.go:327", after := #[{ on := 4, ground := Ground.data }, { on := 5, ground := Ground.chain }, { on := 0, ground := Ground.phase }, { on := 1, ground := Ground.phase }, { on := 2, ground := Ground.phase }, { on := 3, ground := Ground.phase }, { on := 4, ground := Ground.phase }, { on := 5, ground := Ground.phase }], guard := none }) (v := ?_) rfl (by kernel_rfl) (by kernel_rfl) (by kernel_rfl) (fun _ _ _ h => h) (Or.inl ⟨by rfl, ?_⟩) (by assumption) ?_
    rotate_left
    · (intro w hSw; (try dsimp only at hSw); go_simp; first | done | with_reducible rfl)
    try simp only [Act.put, List.setIfInBounds_toArray, List.set_cons_zero, List.set_cons_succ]
    refine wpAnyH_done (by kernel_rfl) ?_ _
    clear hHeld hb5 zz4 S4
    clear x0 x1 x2 y0 y1 y2
    have x0 := S5.out.a.c0
    have y0 := S5.out.c.c0
    have x1 := S5.out.a.c1
    have y1 := S5.out.c.c1
    have x2 := S5.out.a.c2
    have y2 := S5.out.c.c2
    have j1 : IntKind.i64.wrap (l - magA s1) = l - magA s1 := IntWalk.i64_in _ (by omega)
    go_wp2_with fail
    refine (refNormal_any _ _ _ _ _ (by omega) (by omega)).mono ?_
    rintro e w6 ⟨rfl, hb6⟩
    have S6 := Lib.hid (S5.out.keep hb6)
    clear hb6 S5 j1
    clear x0 x1 x2 y0 y1 y2
    go_wp2_with fail
    refine (RSt.put S6 _ _ _ _ (by simp)).mono ?_
    rintro e w7 ⟨v7, rfl, S7⟩
    clear S6
    have x0 := S7.out.a.c0
    have y0 := S7.out.c.c0
    have x1 := S7.out.a.c1
    have y1 := S7.out.c.c1
    have x2 := S7.out.a.c2
    have y2 := S7.out.c.c2
    go_upto_if 49 with fail
    go_cut [8] (fun s8 wx => ∃ v, s8 = v ∧ Hid (RSt w l1 h1 s1 l h s cb base v (midN l h (magA s1) (magA s) (decide (s1 < 0)) (addP [] l1 (l - magA s1) (magA s1) (decide (s1 < 0))) (subK (magA s) (magA s1))) wx) ∧ Hid ((midN l h (magA s1) (magA s) (decide (s1 < 0)) (addP [] l1 (l - magA s1) (magA s1) (decide (s1 < 0))) (subK (magA s) (magA s1))).length ≤ 4000))
    case first =>
      by_cases ch : l < h
      · have st := step_next HCH.out ch
        have kb := subK_bd (t := magA s) (m := magA s1) (by omega) (by omega)
        have KB := Lib.hid kb
        have ST1 := Lib.hid st
        have CH := Lib.hid ch
        have d0 : ¬ magA s1 = 0 := by omega
        have j2 : IntKind.i64.wrap ((magA s).tdiv (magA s1)) = magA s / magA s1 := IntWalk.i64_quo _ _ ⟨by omega, by omega, by omega⟩
        clear st kb
        go_wp2_with fail
        refine (refStep_any _ _ _ _ (by omega) (by omega)).mono ?_
        rintro e w8 ⟨rfl, hb8⟩
        have S8 := Lib.hid (S7.out.keep hb8)
        clear hb8 S7 ch
        clear x0 x1 x2 y0 y1 y2
        have x0 := S8.out.a.c0
        have y0 := S8.out.c.c0
        have x1 := S8.out.a.c1
        have y1 := S8.out.c.c1
        have x2 := S8.out.a.c2
        have y2 := S8.out.c.c2
        by_cases g3 : 1002 < magA s / magA s1
        · have big : Hid (1000 < (subAll l1 h1 s1 l h s).length) := Lib.hid (by
            rw [EL.out]
            have q1 := (addP_le (midN l h (magA s1) (magA s) (decide (s1 < 0)) (addP [] l1 (l - magA s1) (magA s1) (decide (s1 < 0))) (subK (magA s) (magA s1))) (h + magA s1) h1 (magA s1) (decide (s1 < 0))).1
            have q2 := midN_len (m := magA s1) (dn := decide (s1 < 0)) (L := (addP [] l1 (l - magA s1) (magA s1) (decide (s1 < 0)))) ST1.out.1 (subK (magA s) (magA s1))
            have q3 := KB.out.1
            unfold subL
            omega)
          go_wp2_with fail
          exact bodyPost_ret (v := .tuple #[.slice none 0 0, .int .i64 7]) (by simp [results, Try.results46, go_sem, *]) rfl ⟨l, h, s, HF.out, _, _, rfl, S8.out.below, Or.inl ⟨big.out, rfl, rfl⟩⟩
        · have KK : Hid (subK (magA s) (magA s1) ≤ 1002) := Lib.hid (by have := KB.out.2; omega)
          clear KB j2
          go_wp2_with fail
          go_loopg [8, 12, 13] (subK (magA s) (magA s1) + 1) (fun gh v8 v12 _ wr => ∃ (k : Nat) (kk : Int), v12 = .int .i64 kk ∧ (Hid (kk = (k : Int) + 1) ∧ k ≤ subK (magA s) (magA s1) ∧ subK (magA s) (magA s1) - k < gh) ∧ Hid (RSt w l1 h1 s1 l h s cb base v8 (midN l h (magA s1) (magA s) (decide (s1 < 0)) (addP [] l1 (l - magA s1) (magA s1) (decide (s1 < 0))) k) wr))
          case atStart => exact ⟨0, 1, rfl, ⟨Lib.hid (by simp), by omega, by omega⟩, S8⟩
          case round =>
            obtain ⟨k, kk, rfl, ⟨hkk, k0, kg⟩, S9⟩ := hrel
            have KG := Lib.hid kg
            have K0 := Lib.hid k0
            have k1 : 1 ≤ kk := by have := hkk.out; omega
            have k2 : kk ≤ 1003 := by have := hkk.out; have := KK.out; omega
            have pm : 1 ≤ kk * magA s1 ∧ kk * magA s1 ≤ 1003 * 2000000 := mul_le kk (magA s1) 1003 2000000 k1 k2 (by omega) (by omega)
            clear kg k0 S8
            clear x0 x1 x2 y0 y1 y2
            have x0 := S9.out.a.c0
            have y0 := S9.out.c.c0
            have x1 := S9.out.a.c1
            have y1 := S9.out.c.c1
            have x2 := S9.out.a.c2
            have y2 := S9.out.c.c2
            have j3 : IntKind.i64.wrap (kk * magA s1) = kk * magA s1 := IntWalk.i64_in _ (by omega)
            by_cases g4 : kk * magA s1 < magA s
            · have j4 : IntKind.i64.wrap (l + kk * magA s1) = l + kk * magA s1 := IntWalk.i64_in _ (by omega)
              have j5 : IntKind.i64.wrap (kk + 1) = kk + 1 := IntWalk.i64_in _ (by omega)
              have UV : Hid (uptoI (l + kk * magA s1) h (magA s) = h - magA s + kk * magA s1) := Lib.hid (upto_val CH.out (by omega) ST1.out.2 (by omega) g4)
              have KM : Hid (k < subK (magA s) (magA s1)) := Lib.hid (subK_more (by omega) (by rw [← hkk.out]; exact g4))
              have LL : Hid ((midN l h (magA s1) (magA s) (decide (s1 < 0)) (addP [] l1 (l - magA s1) (magA s1) (decide (s1 < 0))) k).length ≤ 2000) := Lib.hid (by
                have q2 := midN_len (m := magA s1) (dn := decide (s1 < 0)) (L := (addP [] l1 (l - magA s1) (magA s1) (decide (s1 < 0)))) ST1.out.1 k
                have q4 := (addP_le [] l1 (l - magA s1) (magA s1) (decide (s1 < 0))).2
                have := K0.out
                have := KK.out
                simp at q4
                omega)
              go_wp2_with fail
              refine (upto_any _ _ _ _ (by omega) (by omega) (by omega) (by omega) (by omega) (by omega)).mono ?_
              rintro e w' ⟨rfl, rfl⟩
              rw [UV.out]
              go_wp2_with fail
              refine (refNormal_any _ _ _ _ _ (by omega) (by omega)).mono ?_
              rintro e w10 ⟨rfl, hb10⟩
              have S10 := Lib.hid (S9.out.keep hb10)
              clear hb10 S9
              clear x0 x1 x2 y0 y1 y2
              go_wp2_with fail
              refine (RSt.put S10 _ _ _ _ (by have := LL.out; omega)).mono ?_
              rintro e w11 ⟨v11, rfl, S11⟩
              clear S10
              go_wp2_with fail
              go_roundg (subK (magA s) (magA s1) - k)
              case measure => exact KG.out
              case rel =>
                refine ⟨k + 1, kk + 1, rfl, ⟨Lib.hid (by have := hkk.out; omega), KM.out, by have := KM.out; omega⟩, ?_⟩
                have e := S11.out
                rw [hkk.out] at e
                exact e
            · have KE : k = subK (magA s) (magA s1) := subK_end (by omega) (by omega) K0.out (by rw [← hkk.out]; exact g4)
              have LL : Hid ((midN l h (magA s1) (magA s) (decide (s1 < 0)) (addP [] l1 (l - magA s1) (magA s1) (decide (s1 < 0))) k).length ≤ 4000) := Lib.hid (by
                have q2 := midN_len (m := magA s1) (dn := decide (s1 < 0)) (L := (addP [] l1 (l - magA s1) (magA s1) (decide (s1 < 0)))) ST1.out.1 k
                have q4 := (addP_le [] l1 (l - magA s1) (magA s1) (decide (s1 < 0))).2
                have := K0.out
                have := KK.out
                simp at q4
                omega)
              have KE' := Lib.hid KE
              clear KE
              go_wp2_with fail
              go_meet
              exact ⟨_, rfl, by rw [← KE'.out]; exact S9, by rw [← KE'.out]; exact LL⟩
      · have Z := Lib.hid (single_step HCH.out CLE.out ch (magA s1) (by omega))
        go_wp2_with fail
        go_meet
        refine ⟨_, rfl, by rw [Z.out]; exact S7, Lib.hid ?_⟩
        have q4 := (addP_le [] l1 (l - magA s1) (magA s1) (decide (s1 < 0))).2
        rw [Z.out]
        simp only [midN]
        simp at q4
        omega
    case rest =>
      obtain ⟨v, rfl, S8, HL8⟩ := hcut
      clear S7
      clear x0 x1 x2 y0 y1 y2
      have x0 := S8.out.a.c0
      have y0 := S8.out.c.c0
      have x1 := S8.out.a.c1
      have y1 := S8.out.c.c1
      have x2 := S8.out.a.c2
      have y2 := S8.out.c.c2
      have j2 : IntKind.i64.wrap (h + magA s1) = h + magA s1 := IntWalk.i64_in _ (by omega)
      go_wp2_with fail
      refine (refNormal_any _ _ _ _ _ (by omega) (by omega)).mono ?_
      rintro e w9 ⟨rfl, hb9⟩
      have S9 := Lib.hid (S8.out.keep hb9)
      clear hb9 S8
      clear x0 x1 x2 y0 y1 y2
      go_wp2_with fail
      refine (RSt.put S9 _ _ _ _ (by have := HL8.out; omega)).mono ?_
      rintro e w10 ⟨v10, rfl, S10⟩
      generalize hL : addP (midN l h (magA s1) (magA s) (decide (s1 < 0)) (addP [] l1 (l - magA s1) (magA s1) (decide (s1 < 0))) (subK (magA s) (magA s1))) (h + magA s1) h1 (magA s1) (decide (s1 < 0)) = LL at S10
      have HLL : Hid (subAll l1 h1 s1 l h s = LL) := Lib.hid (EL.out.trans hL)
      obtain ⟨ao, cap, rfl⟩ := owns_slice S10.out.own
      clear hL S9 HL8 EL
      by_cases g2 : (1000 : Int) < LL.length
      · have G2 := Lib.hid g2
        go_wp2_with fail
        refine bodyPost_ret (v := .tuple #[.slice none 0 0, .int .i64 7]) (by simp [results, Try.results46, go_sem, *]) rfl ⟨l, h, s, HF.out, _, _, rfl, S10.out.below, Or.inl ⟨?_, rfl, rfl⟩⟩
        rw [HLL.out]; have := G2.out; omega
      · have G2 := Lib.hid g2
        go_wp2_with fail
        refine bodyPost_ret (v := .tuple #[.slice ao LL.length cap, .int .i64 0]) (by simp [results, Try.results46, go_sem, *]) rfl ⟨l, h, s, HF.out, _, _, rfl, S10.out.below, Or.inr ?_⟩
        rw [HLL.out]
        exact ⟨by have := G2.out; omega, rfl, owns_base S10.out.own (by have := S10.out.lt2; omega)⟩
  · have EL : Hid (subAll l1 h1 s1 l h s = putP [] l1 h1 s1) := Lib.hid (by
      unfold subAll putP
      rw [if_neg cl]
      by_cases c : l1 ≤ h1
      · rw [if_pos c, if_neg (by unfold reqB; simp; omega)]; rfl
      · rw [if_neg c, if_pos (by have := le_of_chk hA.out c; unfold reqB; simp; omega)])
    rw [show reqB l h s 1 0 1 = true by have := le_of_chk HCH.out cl; unfold reqB; simp; omega]
    clear cl
    go_wp2_with fail
    refine (put_any v0 [] l1 h1 s1 base w4 S4.out.own S4.out.size (by simp)).mono ?_
    rintro e w5 ⟨v5, rfl, ho, hb5⟩
    have HO := Lib.hid ho
    have W5 := Lib.hid (S4.out.below.trans (hb5.mono (by have := S4.out.lt2; omega)))
    have HB := Lib.hid S4.out.lt2
    clear ho hb5 S4
    clear x0 x1 x2 y0 y1 y2
    go_wp2_with fail
    refine bodyPost_ret (v := .tuple #[v5, .int .i64 0]) (by simp [results, Try.results46, go_sem, *]) rfl ⟨l, h, s, HF.out, _, _, rfl, W5.out, Or.inr ?_⟩
    rw [EL.out]
    refine ⟨?_, rfl, owns_base HO.out (by have := HB.out; omega)⟩
    unfold putP; split <;> simp
end Go.Proofs.Ytabgphlpdoockaa
namespace Go.Proofs.Ytabgphlpdoockaa
open Go.RowKit
theorem neq_range (a b c a' b' c' : Int) (w : World) : (binOp .neq 23 (.agg #[.int .i64 a, .int .i64 b, .int .i64 c]) (.agg #[.int .i64 a', .int .i64 b', .int .i64 c'])).run Try.prog w = .ok (.bool (!reqB a b c a' b' c')) w := by
  unfold reqB
  by_cases h1 : a = a'
  · by_cases h2 : b = b'
    · by_cases h3 : c = c'
      · simp [go_sem, h1, h2, h3]
      · simp [go_sem, h1, h2, h3]
    · simp [go_sem, h1, h2]
  · simp [go_sem, h1]
/-- where the elements of a slice that holds a list lie -/
theorem owns_at {w : World} {base g cap : Nat} {L : List R3} (h : w.ownsRow base 23 3 (.slice (some ⟨g, 0, none⟩) L.length cap) L.length (cells3 L)) (k : Nat) (x : R3) (hx : L[k]? = some x) :
    w.cell? ⟨g, k * 3, none⟩ = some (.int .i64 x.1) ∧ w.cell? ⟨g, k * 3 + 1, none⟩ = some (.int .i64 x.2.1) ∧ w.cell? ⟨g, k * 3 + 2, none⟩ = some (.int .i64 x.2.2) := by
  have hk : k < L.length := (List.getElem?_eq_some_iff.1 hx).1
  obtain ⟨q0, q1, q2⟩ := cells3_get L k x hx
  exact ⟨(h.cellAt (k * 3) (by omega)).trans q0, (h.cellAt (k * 3 + 1) (by omega)).trans q1, (h.cellAt (k * 3 + 2) (by omega)).trans q2⟩
theorem reqB_self (a b c : Int) : reqB a b c a b c = true := by unfold reqB; simp
set_option maxRecDepth 100000 in
set_option maxHeartbeats 3200000 in
theorem equal_none (a1 a2 : Option Addr) (c1 c2 : Nat) (w : World) :
    Calls Try.prog 51 #[.slice a1 0 c1, .slice a2 0 c2] w fun e w' => e = .returned (.bool true) ∧ Below w.heap.size w w' := by
  go_enter Try.func51, Try.ntmps51
  go_wp2_with fail
  go_loopg [5, 13] 1 (fun gh _ v13 wr => v13 = .int .i64 0 ∧ 0 < gh ∧ wr = w)
  case atStart => exact ⟨rfl, by omega, rfl⟩
  case round =>
    obtain ⟨rfl, h0, rfl⟩ := hrel
    go_wp2
    exact bodyPost_ret (v := .bool true) (by simp [results, Try.results51, go_sem, *]) rfl ⟨rfl, Below.refl _ _⟩
end Go.Proofs.Ytabgphlpdoockaa
namespace Go.Proofs.Ytabgphlpdoockaa
open Go.RowKit Go.Shelf
attribute [local go_sem] Oper.semAt_some
/-- the number at a position -/
def nthV (l h s : Int) (k : Nat) : Int := if s < 0 then h - (k : Int) * magA s else l + (k : Int) * magA s
/-- the first k numbers of a range, in its order -/
def numsU (l h s : Int) (k : Nat) : List Int := (List.range k).map (nthV l h s)
/-- the numbers of a range, in its order -/
def numsL (l h s : Int) : List Int := numsU l h s (siz l h s).toNat
theorem numsU_length (l h s : Int) (k : Nat) : (numsU l h s k).length = k := by unfold numsU; simp
theorem heap_keep {w w' : World} {k : Nat} {o : Obj} (h : w.heap[k]? = some o) (hb : Below w.heap.size w w') : w'.heap[k]? = some o := (hb.block k (Array.getElem?_eq_some_iff.1 h).1).trans h
theorem row3 {w : World} {g : Nat} {a b c : Value} {t : TypeId} (h : w.heap[g]? = some (.cells #[a, b, c] t (0, 0))) : w.cell? ⟨g, 0, none⟩ = some a ∧ w.cell? ⟨g, 1, none⟩ = some b ∧ w.cell? ⟨g, 2, none⟩ = some c := by
  refine ⟨?_, ?_, ?_⟩ <;> simp [World.cell?, h]
theorem siz_bdn {l h s : Int} (hk : chk l h s = 0) : 0 ≤ siz l h s ∧ siz l h s ≤ 2000001 := by
  have bA := chk_bounds hk
  by_cases c : l ≤ h
  · have := quo_bd (h - l) (magA s) (by omega) (by omega)
    rw [siz_ok hk c]; omega
  · have := empty_a hk c; omega
end Go.Proofs.Ytabgphlpdoockaa
namespace Go.Proofs.Ytabgphlpdoockaa
open Go.RowKit Go.Shelf
attribute [local go_sem] Oper.semAt_some
theorem Try.infoInt : (Try.prog.info? 3).map (fun i => (i.zero, i.size, i.bytes)) = some (some (.int .i64 0), 1, 8) := by kernel_rfl
theorem boxed_else {W : World} {B C : Nat} {t : TypeId} {u v : Value} (h : Boxed W B t u) (hne : B ≠ C) : Boxed (W.setCell ⟨C, 0, none⟩ v) B t u := (Below.heap_setCell W ⟨C, 0, none⟩ v B hne).trans h
end Go.Proofs.Ytabgphlpdoockaa
namespace Go.Proofs.Ytabgphlpdoockaa
open Go.RowKit Go.Op
end Go.Proofs.Ytabgphlpdoockaa
namespace Go.Proofs.Ytabgphlpdoockaa
open Go.RowKit
theorem nthV_in {l h s : Int} (hk : chk l h s = 0) {k : Nat} (hn : (k : Int) < siz l h s) : posB l h s (nthV l h s k) = true ∧ posN l h s (nthV l h s k) = k ∧ l ≤ nthV l h s k ∧ nthV l h s k ≤ h := by
  have bA := chk_bounds hk
  have le : l ≤ h := by
    by_cases c : l ≤ h
    · exact c
    · have := empty_a hk c; omega
  obtain ⟨st, z, m, s0⟩ := steps_a hk le
  have bd := mul_bd (k : Int) (h - l) (magA s) (by omega) (by rw [← siz_ok hk le]; exact hn) (by omega)
  have hd : magA s ∣ h - l := ⟨siz l h s - 1, by rw [st, Int.mul_comm]⟩
  have mem : l ≤ nthV l h s k ∧ nthV l h s k ≤ h ∧ (nthV l h s k - l) % magA s = 0 := by
    unfold nthV
    split
    · refine ⟨by omega, by omega, Int.emod_eq_zero_of_dvd ?_⟩
      rw [show h - (k : Int) * magA s - l = (h - l) - (k : Int) * magA s by omega]
      exact Int.dvd_sub hd (Int.dvd_mul_left _ _)
    · refine ⟨by omega, by omega, Int.emod_eq_zero_of_dvd ?_⟩
      rw [show l + (k : Int) * magA s - l = (k : Int) * magA s by omega]
      exact Int.dvd_mul_left _ _
  have p : posB l h s (nthV l h s k) = true := decide_eq_true ⟨hk, mem.1, mem.2.1, mem.2.2⟩
  refine ⟨p, ?_, mem.1, mem.2.1⟩
  unfold posN
  rw [if_pos p]
  unfold nthV
  by_cases c : s < 0
  · rw [if_pos c, if_pos c, show h - (h - (k : Int) * magA s) = (k : Int) * magA s by omega, Int.mul_ediv_cancel _ (by omega)]
  · rw [if_neg c, if_neg c, show l + (k : Int) * magA s - l = (k : Int) * magA s by omega, Int.mul_ediv_cancel _ (by omega)]
/-- the law's box, and the slice that it walks -/
structure OSt (w : World) (l h s : Int) (base : Nat) (v : Value) (n : Nat) (wx : World) : Prop where
  below : Below w.heap.size w wx
  a : B3 w.heap.size (.int .i64 l) (.int .i64 h) (.int .i64 s) wx
  own : wx.ownsRow base 3 1 v n ((numsL l h s).map (Value.int .i64))
theorem OSt.keep {w : World} {l h s : Int} {base n : Nat} {v : Value} {w1 w2 : World} (o : OSt w l h s base v n w1) (hb : Below w1.heap.size w1 w2) : OSt w l h s base v n w2 :=
  ⟨o.below.trans (hb.mono o.below.size), o.a.keep hb, owns_below o.own hb⟩
theorem owns_addr {w : World} {base n cap : Nat} {e : TypeId} {size : Nat} {ao : Option Addr} {xs : List Value} (h : w.ownsRow base e size (.slice ao n cap) n xs) (hn : ¬ n = 0) : ∃ g, ao = some ⟨g, 0, none⟩ := by
  rcases h.2 with ⟨_, e⟩ | ⟨g, c, _, e, _⟩
  · exact absurd e hn
  · injection e with e1 e2 e3
    exact ⟨g, e1⟩
theorem numsL_length (l h s : Int) : (numsL l h s).length = (siz l h s).toNat := numsU_length l h s _
theorem res1b {w w1 : World} {t : TypeId} {a b c : Value} (hb : Below (w.alloc (.cells #[a, b, c] t)).heap.size (w.alloc (.cells #[a, b, c] t)) w1) : Below w.heap.size w w1 ∧ B3 w.heap.size a b c w1 :=
  ⟨((below_new _ _)).trans (hb.mono (by simp)), (B3.new a b c t w).keep hb⟩
end Go.Proofs.Ytabgphlpdoockaa
namespace Go.Proofs.Ytabgphlpdoockaa
open Go.RowKit
/-- a slice of ranges reads as a list -/
def Rd (w : World) (v : Value) (L : List R3) : Prop := ∃ (ao : Option Addr) (cap : Nat), v = .slice ao L.length cap ∧ (L.length = 0 ∨ ∃ b o : Nat, ao = some ⟨b, o, none⟩ ∧ b < w.heap.size ∧
  ∀ (j : Nat) (x : R3), L[j]? = some x → w.cell? ⟨b, o + j * 3, none⟩ = some (.int .i64 x.1) ∧ w.cell? ⟨b, o + j * 3 + 1, none⟩ = some (.int .i64 x.2.1) ∧ w.cell? ⟨b, o + j * 3 + 2, none⟩ = some (.int .i64 x.2.2))
theorem Rd.keep {w w' : World} {v : Value} {L : List R3} (r : Rd w v L) (hb : Below w.heap.size w w') : Rd w' v L := by
  obtain ⟨ao, cap, e, h⟩ := r
  refine ⟨ao, cap, e, h.elim Or.inl fun ⟨b, o, e2, hlt, hc⟩ => Or.inr ⟨b, o, e2, Nat.lt_of_lt_of_le hlt hb.size, fun j x hx => ?_⟩⟩
  obtain ⟨c0, c1, c2⟩ := hc j x hx
  exact ⟨(hb.cell (p := ⟨b, o + j * 3, none⟩) hlt).trans c0, (hb.cell (p := ⟨b, o + j * 3 + 1, none⟩) hlt).trans c1, (hb.cell (p := ⟨b, o + j * 3 + 2, none⟩) hlt).trans c2⟩
theorem Rd.of_own {w : World} {base : Nat} {v : Value} {L : List R3} (h : w.ownsRow base 23 3 v L.length (cells3 L)) : Rd w v L := by
  obtain ⟨ao, cap, rfl⟩ := owns_slice h
  refine ⟨ao, cap, rfl, ?_⟩
  by_cases z : L.length = 0
  · exact Or.inl z
  · obtain ⟨g, rfl⟩ := owns_addr h z
    refine Or.inr ⟨g, 0, rfl, (h.lt g rfl).2, fun j x hx => ?_⟩
    rw [Nat.zero_add]
    exact owns_at h j x hx
/-- the ints of a list of ranges are ints -/
def Ok3 (L : List R3) : Prop := ∀ x ∈ L, I64 x.1 ∧ I64 x.2.1 ∧ I64 x.2.2
def rankB (n : Nat) : Bool := decide (n = 1) || decide (n = 2)
theorem ranked_any (ao : Option Addr) (n cap : Nat) (w : World) :
    Calls Try.prog 138 #[.slice ao n cap] w fun e w' => e = .returned (.bool (rankB n)) ∧ w = w' := by
  by_cases c1 : n = 1
  · subst c1
    go_enter Try.func138, Try.ntmps138
    go_wp2
    go_ret
    exact ⟨rfl, rfl⟩
  · by_cases c2 : n = 2
    · subst c2
      go_enter Try.func138, Try.ntmps138
      go_wp2
      go_ret
      exact ⟨rfl, rfl⟩
    · have e : Hid (rankB n = false) := Lib.hid (by unfold rankB; simp [c1, c2])
      have d1 : ((n : Int) == 1) = false := by simp; omega
      have d2 : ((n : Int) == 2) = false := by simp; omega
      clear c1 c2
      go_enter Try.func138, Try.ntmps138
      go_wp2
      rw [e.out]
      exact bodyPost_ret (v := .bool false) (by simp [results, Try.results138, go_sem, *]) rfl ⟨rfl, rfl⟩
/-- whether a map is right -/
def plB (k s h : Int) : Bool :=
  if k = 0 then decide (s = 0) && (decide (0 ≤ h) && decide (h < 8))
  else if k = 1 ∨ k = 2 ∨ k = 4 then decide (s = 0) && decide (h = 0)
  else if k = 3 then decide (1 ≤ s) && (decide (s ≤ 1000) && decide (h = 0)) else false
def PlRet (k s h : Int) (w : World) : Ending → World → Prop := fun e w' => e = .returned (.bool (plB k s h)) ∧ Below w.heap.size w w'
theorem pl_of {k s h : Int} {b : Bool} {w w' : World} (e : plB k s h = b) (hb : Below w.heap.size w w') : PlRet k s h w (.returned (.bool b)) w' := ⟨by rw [e], hb⟩
set_option maxHeartbeats 3200000 in
theorem placed_any (k s h : Int) (w : World) : Calls Try.prog 144 #[.agg #[.int .i64 k, .int .i64 s, .int .i64 h]] w (PlRet k s h w) := by
  by_cases k0 : k = 0
  · subst k0
    by_cases s0 : s = 0
    · have s0' : (s == 0) = true := by simp [s0]
      by_cases h0 : 0 ≤ h
      · have h0' : decide (0 ≤ h) = true := by simp [h0]
        by_cases h1 : h < 8
        · have h1' : decide (h < 8) = true := by simp [h1]
          have E : Hid (plB 0 s h = true) := Lib.hid (by unfold plB; simp [*])
          clear s0
          go_enter Try.func144, Try.ntmps144
          go_wp2
          refine bodyPost_ret (v := .bool true) (by simp [results, Try.results144, go_sem, *]) rfl (pl_of E.out ?_)
          repeat (first | exact Below.refl _ _ | refine Below.alloc ?_ (by simp; try omega) _ | refine Below.setCell ?_ (by simp; try omega) _)
        · have h1' : decide (h < 8) = false := by simp [h1]
          have E : Hid (plB 0 s h = false) := Lib.hid (by unfold plB; simp [*])
          clear s0
          go_enter Try.func144, Try.ntmps144
          go_wp2
          refine bodyPost_ret (v := .bool false) (by simp [results, Try.results144, go_sem, *]) rfl (pl_of E.out ?_)
          repeat (first | exact Below.refl _ _ | refine Below.alloc ?_ (by simp; try omega) _ | refine Below.setCell ?_ (by simp; try omega) _)
      · have h0' : decide (0 ≤ h) = false := by simp [h0]
        have E : Hid (plB 0 s h = false) := Lib.hid (by unfold plB; simp [*])
        clear s0
        go_enter Try.func144, Try.ntmps144
        go_wp2
        refine bodyPost_ret (v := .bool false) (by simp [results, Try.results144, go_sem, *]) rfl (pl_of E.out ?_)
        repeat (first | exact Below.refl _ _ | refine Below.alloc ?_ (by simp; try omega) _ | refine Below.setCell ?_ (by simp; try omega) _)
    · have s0' : (s == 0) = false := by simp [s0]
      have E : Hid (plB 0 s h = false) := Lib.hid (by unfold plB; simp [*])
      go_enter Try.func144, Try.ntmps144
      go_wp2
      refine bodyPost_ret (v := .bool false) (by simp [results, Try.results144, go_sem, *]) rfl (pl_of E.out ?_)
      repeat (first | exact Below.refl _ _ | refine Below.alloc ?_ (by simp; try omega) _ | refine Below.setCell ?_ (by simp; try omega) _)
  · have k0' : (k == 0) = false := by simp [k0]
    by_cases k1 : k = 1
    · subst k1
      by_cases s0 : s = 0
      · have s0' : (s == 0) = true := by simp [s0]
        by_cases h0 : h = 0
        · have h0' : (h == 0) = true := by simp [h0]
          have E : Hid (plB 1 s h = true) := Lib.hid (by unfold plB; simp [*])
          clear s0 h0
          go_enter Try.func144, Try.ntmps144
          go_wp2
          refine bodyPost_ret (v := .bool true) (by simp [results, Try.results144, go_sem, *]) rfl (pl_of E.out ?_)
          repeat (first | exact Below.refl _ _ | refine Below.alloc ?_ (by simp; try omega) _ | refine Below.setCell ?_ (by simp; try omega) _)
        · have h0' : (h == 0) = false := by simp [h0]
          have E : Hid (plB 1 s h = false) := Lib.hid (by unfold plB; simp [*])
          clear s0
          go_enter Try.func144, Try.ntmps144
          go_wp2
          refine bodyPost_ret (v := .bool false) (by simp [results, Try.results144, go_sem, *]) rfl (pl_of E.out ?_)
          repeat (first | exact Below.refl _ _ | refine Below.alloc ?_ (by simp; try omega) _ | refine Below.setCell ?_ (by simp; try omega) _)
      · have s0' : (s == 0) = false := by simp [s0]
        have E : Hid (plB 1 s h = false) := Lib.hid (by unfold plB; simp [*])
        go_enter Try.func144, Try.ntmps144
        go_wp2
        refine bodyPost_ret (v := .bool false) (by simp [results, Try.results144, go_sem, *]) rfl (pl_of E.out ?_)
        repeat (first | exact Below.refl _ _ | refine Below.alloc ?_ (by simp; try omega) _ | refine Below.setCell ?_ (by simp; try omega) _)
    · have k1' : (k == 1) = false := by simp [k1]
      by_cases k2 : k = 2
      · subst k2
        by_cases s0 : s = 0
        · have s0' : (s == 0) = true := by simp [s0]
          by_cases h0 : h = 0
          · have h0' : (h == 0) = true := by simp [h0]
            have E : Hid (plB 2 s h = true) := Lib.hid (by unfold plB; simp [*])
            clear s0 h0
            go_enter Try.func144, Try.ntmps144
            go_wp2
            refine bodyPost_ret (v := .bool true) (by simp [results, Try.results144, go_sem, *]) rfl (pl_of E.out ?_)
            repeat (first | exact Below.refl _ _ | refine Below.alloc ?_ (by simp; try omega) _ | refine Below.setCell ?_ (by simp; try omega) _)
          · have h0' : (h == 0) = false := by simp [h0]
            have E : Hid (plB 2 s h = false) := Lib.hid (by unfold plB; simp [*])
            clear s0
            go_enter Try.func144, Try.ntmps144
            go_wp2
            refine bodyPost_ret (v := .bool false) (by simp [results, Try.results144, go_sem, *]) rfl (pl_of E.out ?_)
            repeat (first | exact Below.refl _ _ | refine Below.alloc ?_ (by simp; try omega) _ | refine Below.setCell ?_ (by simp; try omega) _)
        · have s0' : (s == 0) = false := by simp [s0]
          have E : Hid (plB 2 s h = false) := Lib.hid (by unfold plB; simp [*])
          go_enter Try.func144, Try.ntmps144
          go_wp2
          refine bodyPost_ret (v := .bool false) (by simp [results, Try.results144, go_sem, *]) rfl (pl_of E.out ?_)
          repeat (first | exact Below.refl _ _ | refine Below.alloc ?_ (by simp; try omega) _ | refine Below.setCell ?_ (by simp; try omega) _)
      · have k2' : (k == 2) = false := by simp [k2]
        by_cases k4 : k = 4
        · subst k4
          by_cases s0 : s = 0
          · have s0' : (s == 0) = true := by simp [s0]
            by_cases h0 : h = 0
            · have h0' : (h == 0) = true := by simp [h0]
              have E : Hid (plB 4 s h = true) := Lib.hid (by unfold plB; simp [*])
              clear s0 h0
              go_enter Try.func144, Try.ntmps144
              go_wp2
              refine bodyPost_ret (v := .bool true) (by simp [results, Try.results144, go_sem, *]) rfl (pl_of E.out ?_)
              repeat (first | exact Below.refl _ _ | refine Below.alloc ?_ (by simp; try omega) _ | refine Below.setCell ?_ (by simp; try omega) _)
            · have h0' : (h == 0) = false := by simp [h0]
              have E : Hid (plB 4 s h = false) := Lib.hid (by unfold plB; simp [*])
              clear s0
              go_enter Try.func144, Try.ntmps144
              go_wp2
              refine bodyPost_ret (v := .bool false) (by simp [results, Try.results144, go_sem, *]) rfl (pl_of E.out ?_)
              repeat (first | exact Below.refl _ _ | refine Below.alloc ?_ (by simp; try omega) _ | refine Below.setCell ?_ (by simp; try omega) _)
          · have s0' : (s == 0) = false := by simp [s0]
            have E : Hid (plB 4 s h = false) := Lib.hid (by unfold plB; simp [*])
            go_enter Try.func144, Try.ntmps144
            go_wp2
            refine bodyPost_ret (v := .bool false) (by simp [results, Try.results144, go_sem, *]) rfl (pl_of E.out ?_)
            repeat (first | exact Below.refl _ _ | refine Below.alloc ?_ (by simp; try omega) _ | refine Below.setCell ?_ (by simp; try omega) _)
        · have k4' : (k == 4) = false := by simp [k4]
          by_cases k3 : k = 3
          · subst k3
            by_cases s0 : 1 ≤ s
            · have s0' : decide (1 ≤ s) = true := by simp [s0]
              by_cases s1 : s ≤ 1000
              · have s1' : decide (s ≤ 1000) = true := by simp [s1]
                by_cases h0 : h = 0
                · have h0' : (h == 0) = true := by simp [h0]
                  have E : Hid (plB 3 s h = true) := Lib.hid (by unfold plB; simp [*])
                  clear h0
                  go_enter Try.func144, Try.ntmps144
                  go_wp2
                  refine bodyPost_ret (v := .bool true) (by simp [results, Try.results144, go_sem, *]) rfl (pl_of E.out ?_)
                  repeat (first | exact Below.refl _ _ | refine Below.alloc ?_ (by simp; try omega) _ | refine Below.setCell ?_ (by simp; try omega) _)
                · have h0' : (h == 0) = false := by simp [h0]
                  have E : Hid (plB 3 s h = false) := Lib.hid (by unfold plB; simp [*])
                  go_enter Try.func144, Try.ntmps144
                  go_wp2
                  refine bodyPost_ret (v := .bool false) (by simp [results, Try.results144, go_sem, *]) rfl (pl_of E.out ?_)
                  repeat (first | exact Below.refl _ _ | refine Below.alloc ?_ (by simp; try omega) _ | refine Below.setCell ?_ (by simp; try omega) _)
              · have s1' : decide (s ≤ 1000) = false := by simp [s1]
                have E : Hid (plB 3 s h = false) := Lib.hid (by unfold plB; simp [*])
                go_enter Try.func144, Try.ntmps144
                go_wp2
                refine bodyPost_ret (v := .bool false) (by simp [results, Try.results144, go_sem, *]) rfl (pl_of E.out ?_)
                repeat (first | exact Below.refl _ _ | refine Below.alloc ?_ (by simp; try omega) _ | refine Below.setCell ?_ (by simp; try omega) _)
            · have s0' : decide (1 ≤ s) = false := by simp [s0]
              have E : Hid (plB 3 s h = false) := Lib.hid (by unfold plB; simp [*])
              go_enter Try.func144, Try.ntmps144
              go_wp2
              refine bodyPost_ret (v := .bool false) (by simp [results, Try.results144, go_sem, *]) rfl (pl_of E.out ?_)
              repeat (first | exact Below.refl _ _ | refine Below.alloc ?_ (by simp; try omega) _ | refine Below.setCell ?_ (by simp; try omega) _)
          · have k3' : (k == 3) = false := by simp [k3]
            have E : Hid (plB k s h = false) := Lib.hid (by unfold plB; simp [*])
            go_enter Try.func144, Try.ntmps144
            go_wp2
            refine bodyPost_ret (v := .bool false) (by simp [results, Try.results144, go_sem, *]) rfl (pl_of E.out ?_)
            repeat (first | exact Below.refl _ _ | refine Below.alloc ?_ (by simp; try omega) _ | refine Below.setCell ?_ (by simp; try omega) _)
end Go.Proofs.Ytabgphlpdoockaa
namespace Go.Proofs.Ytabgphlpdoockaa
open Go.RowKit
/-- the error of a range as a dimension -/
def dimE (x : R3) : Int := if chk x.1 x.2.1 x.2.2 = 0 then (if x.2.2 < 0 then 2 else 0) else chk x.1 x.2.1 x.2.2
/-- the first error of dimensions -/
def dimsE : List R3 → Int
  | [] => 0
  | x :: L => if dimE x = 0 then dimsE L else dimE x
/-- the error of a domain -/
def dchk (L : List R3) (k s h : Int) : Int := if rankB L.length = true then (if dimsE L = 0 then (if plB k s h = true then 0 else 2) else dimsE L) else 5
theorem dimsE_take {L : List R3} {j : Nat} {x : R3} (hx : L[j]? = some x) (h0 : dimsE (L.take j) = 0) : (dimE x = 0 → dimsE (L.take (j + 1)) = 0) ∧ (¬ dimE x = 0 → dimsE L = dimE x) := by
  induction L generalizing j with
  | nil => simp at hx
  | cons y L ih =>
    cases j with
    | zero =>
      simp at hx
      subst hx
      exact ⟨fun h => by simp [dimsE, h], fun h => by simp [dimsE, h]⟩
    | succ j =>
      have hx' : L[j]? = some x := by simpa using hx
      rw [List.take_succ_cons] at h0
      unfold dimsE at h0
      by_cases c : dimE y = 0
      · rw [if_pos c] at h0
        have := ih hx' h0
        refine ⟨fun h => ?_, fun h => ?_⟩
        · rw [List.take_succ_cons]; unfold dimsE; rw [if_pos c]; exact this.1 h
        · unfold dimsE; rw [if_pos c]; exact this.2 h
      · rw [if_neg c] at h0; exact absurd h0 c
/-- the box of a domain, and that old memory lies as it lay -/
structure DSt (w : World) (v : Value) (k s h : Int) (w' : World) : Prop where
  below : Below w.heap.size w w'
  d : Blk w.heap.size v (.int .i64 k) (.int .i64 s) (.int .i64 h) w'
theorem DSt.keep {w : World} {v : Value} {k s h : Int} {wa wb : World} (t : DSt w v k s h wa) (hb : Below wa.heap.size wa wb) : DSt w v k s h wb :=
  ⟨t.below.trans (hb.mono t.below.size), t.d.keep hb⟩
set_option maxRecDepth 100000 in
set_option maxHeartbeats 3200000 in
theorem Dcheck_any (v : Value) (L : List R3) (k s h : Int) (w : World) (hr : Rd w v L) (hL : Ok3 L) :
    Calls Try.prog 67 #[.agg #[v, .int .i64 k, .int .i64 s, .int .i64 h]] w fun e w' => e = .returned (.int .i64 (dchk L k s h)) ∧ Below w.heap.size w w' := by
  obtain ⟨ao, cap, rfl, hc⟩ := hr
  have HC := Lib.hid hc
  have HL := Lib.hid hL
  clear hc hL
  go_enter Try.func67, Try.ntmps67
  go_wp2_with fail
  go_step3
  go_wp2_with fail
  refine (ranked_any _ _ _ _).mono ?_
  rintro e w' ⟨rfl, rfl⟩
  cases hq : rankB L.length
  · have E : Hid (dchk L k s h = 5) := Lib.hid (by unfold dchk; rw [hq]; rfl)
    clear hq
    go_wp2
    (try rw [Exit.noGoto_ret])
    refine bodyPost_ret (v := .int .i64 5) (by simp [results, Try.results67, go_sem, *]) rfl ⟨by rw [E.out], ?_⟩
    exact below_new _ _
  · have HQ := Lib.hid hq
    clear hq
    go_wp2_with fail
    go_step3
    have hn : L.length = 1 ∨ L.length = 2 := by have := HQ.out; unfold rankB at this; simpa using this
    obtain ⟨b, o, rfl, hb, hcell⟩ := HC.out.resolve_left (by omega)
    have CL := Lib.hid hcell
    have HN := Lib.hid hn
    clear hcell hn HC
    have D0 : Hid (DSt w (.slice (some ⟨b, o, none⟩) L.length cap) k s h (w.alloc (.cells #[.slice (some ⟨b, o, none⟩) L.length cap, .int .i64 k, .int .i64 s, .int .i64 h] 62))) := Lib.hid ⟨below_new _ _, Blk.new _ _ _ _ _ _⟩
    go_upto_block 0 with fail
    go_cut [3] (fun v wx => v = .int .i64 (dimsE L) ∧ Hid (DSt w (.slice (some ⟨b, o, none⟩) L.length cap) k s h wx))
    case first =>
      go_wp2_with fail
      go_loopg [3, 5, 13, 19, 22] (L.length + 1) (fun gh v3 _ v13 _ _ wr => ∃ j : Nat, v13 = .int .i64 j ∧ v3 = .int .i64 0 ∧ (j ≤ L.length ∧ L.length - j < gh) ∧ Hid (dimsE (L.take j) = 0) ∧ Hid (DSt w (.slice (some ⟨b, o, none⟩) L.length cap) k s h wr))
      case atStart => exact ⟨0, rfl, rfl, ⟨by omega, by omega⟩, Lib.hid rfl, D0⟩
      case round =>
        obtain ⟨j, rfl, rfl, ⟨j0, jg⟩, hz, D1⟩ := hrel
        have KG := Lib.hid jg
        clear jg
        by_cases hj : j < L.length
        · obtain ⟨x, hx⟩ : ∃ x, L[j]? = some x := ⟨L[j], List.getElem?_eq_getElem hj⟩
          obtain ⟨q0, q1, q2⟩ := CL.out j x hx
          have p0 := (D1.out.below.cell (p := ⟨b, o + j * 3, none⟩) hb).trans q0
          have p1 := (D1.out.below.cell (p := ⟨b, o + j * 3 + 1, none⟩) hb).trans q1
          have p2 := (D1.out.below.cell (p := ⟨b, o + j * 3 + 2, none⟩) hb).trans q2
          have ox := HL.out x (List.mem_of_getElem? hx)
          have DT := Lib.hid (dimsE_take hx hz.out)
          have n2 : (L.length : Int) ≤ 2 := by have := HN.out; omega
          clear q0 q1 q2 hx
          go_wp2_with fail
          refine (check64 x.1 x.2.1 x.2.2 _ ox.1 ox.2.1 ox.2.2).mono ?_
          rintro e w2 ⟨rfl, hb2⟩
          have R2 := res1b hb2
          have D2 := Lib.hid (D1.out.keep R2.1)
          have X2 := Lib.hid R2.2
          clear hb2 R2 D1 p0 p1 p2
          have x2 := X2.out.c2
          have jw : IntKind.i64.wrap ((j : Int) + 1) = (j : Int) + 1 := IntWalk.i64_in _ (by omega)
          by_cases c : chk x.1 x.2.1 x.2.2 = 0
          · by_cases c2 : x.2.2 < 0
            · have e : dimE x = 2 := by unfold dimE; rw [if_pos c, if_pos c2]
              have E : Hid (dimsE L = 2) := Lib.hid (by rw [DT.out.2 (by omega), e])
              have c' : (chk x.1 x.2.1 x.2.2 != 0) = false := by simp [c]
              clear c e DT
              go_wp2_with fail
              go_meet
              exact ⟨by rw [E.out], D2⟩
            · have e : dimE x = 0 := by unfold dimE; rw [if_pos c, if_neg c2]
              have E : Hid (dimsE (L.take (j + 1)) = 0) := Lib.hid (DT.out.1 e)
              have c' : (chk x.1 x.2.1 x.2.2 != 0) = false := by simp [c]
              have C := Lib.hid c
              clear c e DT
              go_wp2_with fail
              go_roundg (L.length - j)
              case measure => exact KG.out
              case rel => exact ⟨j + 1, by go_num, by rw [C.out], ⟨by omega, by omega⟩, E, D2⟩
          · have e : dimE x = chk x.1 x.2.1 x.2.2 := by unfold dimE; rw [if_neg c]
            have E : Hid (dimsE L = chk x.1 x.2.1 x.2.2) := Lib.hid (by rw [DT.out.2 (by omega), e])
            have c' : (chk x.1 x.2.1 x.2.2 != 0) = true := by simp [c]
            clear c e DT
            go_wp2_with fail
            go_meet
            exact ⟨by rw [E.out], D2⟩
        · obtain rfl : j = L.length := by omega
          have E : Hid (dimsE L = 0) := Lib.hid (by have := hz.out; rwa [List.take_length] at this)
          go_wp2_with fail
          go_meet
          exact ⟨by rw [E.out], D1⟩
    case rest =>
      obtain ⟨rfl, D1⟩ := hcut
      clear D0
      have y1 := D1.out.d.c1
      have y2 := D1.out.d.c2
      have y3 := D1.out.d.c3
      by_cases c : dimsE L = 0
      · have c' : (dimsE L == 0) = true := by simp [c]
        have C := Lib.hid c
        clear c
        go_wp2_with fail
        refine (placed_any _ _ _ _).mono ?_
        rintro e w2 ⟨rfl, hb2⟩
        have D2 := Lib.hid (D1.out.keep hb2)
        clear hb2 D1 y1 y2 y3
        cases hp : plB k s h
        · have E : Hid (dchk L k s h = 2) := Lib.hid (by unfold dchk; rw [HQ.out, if_pos rfl, if_pos C.out, hp]; rfl)
          clear hp
          go_wp2
          (try rw [Exit.noGoto_ret])
          exact bodyPost_ret (v := .int .i64 2) (by simp [results, Try.results67, go_sem, *]) rfl ⟨by rw [E.out], D2.out.below⟩
        · have E : Hid (dchk L k s h = dimsE L) := Lib.hid (by unfold dchk; rw [HQ.out, if_pos rfl, if_pos C.out, hp, C.out]; rfl)
          clear hp
          go_wp2
          (try rw [Exit.noGoto_ret])
          exact bodyPost_ret (v := .int .i64 (dimsE L)) (by simp [results, Try.results67, go_sem, *]) rfl ⟨by rw [E.out], D2.out.below⟩
      · have c' : (dimsE L == 0) = false := by simp [c]
        have E : Hid (dchk L k s h = dimsE L) := Lib.hid (by unfold dchk; rw [HQ.out, if_pos rfl, if_neg c])
        clear c
        go_wp2
        (try rw [Exit.noGoto_ret])
        exact bodyPost_ret (v := .int .i64 (dimsE L)) (by simp [results, Try.results67, go_sem, *]) rfl ⟨by rw [E.out], D1.out.below⟩
end Go.Proofs.Ytabgphlpdoockaa
