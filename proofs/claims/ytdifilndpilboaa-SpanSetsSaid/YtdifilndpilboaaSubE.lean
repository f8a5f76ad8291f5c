/-
  The reference's Subtract of right ranges.
-/
import Derived.Test.YtdifilndpilboaaSubD
import Derived.WalkKit
import Derived.Deep.RegionWith
import Derived.Deep.DeepCutAuto
import Derived.Deep.LoopGhost
import Derived.Deep.CutBlock
import Derived.WalkSpells
import Derived.WalkLawsBesides
import Derived.BigQuiet
import Derived.Deep.QuietTactic
import Derived.Deep.RegionHeld3
import Derived.Deep.DrawnRows
import Derived.Lib.Hide
namespace Go.Proofs.Ytdifilndpilboaa
open Go.RowKit

theorem upto_val {l h t p : Int} (hlt : l < h) (ht : 1 ≤ t) (hd : (h - l) % t = 0) (p0 : 0 < p) (p1 : p < t) : uptoI (l + p) h t = h - t + p := by
  obtain ⟨q, hq⟩ := Int.dvd_of_emod_eq_zero hd
  have q1 : 1 ≤ q := by
    by_cases c : q ≤ 0
    · have := Int.mul_nonneg (show 0 ≤ t by omega) (show 0 ≤ -q by omega)
      rw [Int.mul_neg] at this; omega
    · omega
  have e1 : h - (l + p) = (t - p) + t * (q - 1) := by rw [Int.mul_sub, Int.mul_one]; omega
  have e2 : (h - (l + p)) / t = q - 1 := by
    rw [e1, Int.add_mul_ediv_left _ _ (by omega), Int.ediv_eq_zero_of_lt (by omega) (by omega)]; omega
  have e3 : 0 ≤ t * (q - 1) := Int.mul_nonneg (by omega) (by omega)
  unfold uptoI
  rw [if_neg (by omega), e2, Int.mul_comm, Int.mul_sub, Int.mul_one]
  omega
theorem midN_len {l h m t : Int} {dn : Bool} {L : List R3} (hle : l + t ≤ h) : ∀ k, (midN l h m t dn L k).length = L.length + k
  | 0 => rfl
  | k + 1 => by
    have ih := midN_len (m := m) (dn := dn) (L := L) hle k
    simp only [midN, addP]
    rw [if_pos (by omega), List.length_append, ih]
    simp; omega
theorem step_next {l h s : Int} (hk : chk l h s = 0) (hlt : l < h) : l + magA s ≤ h ∧ (h - l) % magA s = 0 := by
  rcases chk_zero hk with ⟨rfl, rfl, rfl⟩ | ⟨_, _, _, _, _, _, m1, _, hd, _⟩
  · omega
  · refine ⟨?_, hd⟩
    have := Int.le_of_dvd (by omega) (Int.dvd_of_emod_eq_zero hd)
    omega
theorem single_step {l h s : Int} (hk : chk l h s = 0) (hle : l ≤ h) (hn : ¬ l < h) (m : Int) (_hm : 1 ≤ m) : subK (magA s) m = 0 := by
  rcases chk_zero hk with ⟨rfl, rfl, rfl⟩ | ⟨_, _, _, _, _, _, _, _, _, hs⟩
  · omega
  · rw [hs (by omega), show magA 1 = 1 from rfl]
    unfold subK; simp
theorem subK_bd {t m : Int} (hm : 1 ≤ m) (ht : 1 ≤ t) : t / m ≤ (subK t m : Int) + 1 ∧ (subK t m : Int) ≤ t / m := by
  have h0 : 0 ≤ (t - 1) / m := Int.ediv_nonneg (by omega) (by omega)
  have h1 : (t - 1) / m ≤ t / m := Int.ediv_le_ediv (by omega) (by omega)
  have h2 : t / m ≤ (t - 1) / m + 1 := by
    have := Int.ediv_le_ediv (show 0 < m by omega) (show t ≤ (t - 1) + 1 * m by omega)
    rwa [Int.add_mul_ediv_right _ _ (by omega)] at this
  unfold subK; omega

/-- the reference's Subtract: its boxes, and the list so far -/
structure RSt (w : World) (l1 h1 s1 l h s : Int) (cb base : Nat) (v : Value) (L : List R3) (wx : World) : Prop where
  below : Below w.heap.size w wx
  a : B3 w.heap.size (.int .i64 l1) (.int .i64 h1) (.int .i64 s1) wx
  c : B3 cb (.int .i64 l) (.int .i64 h) (.int .i64 s) wx
  own : wx.ownsRow base 23 3 v L.length (cells3 L)
  size : base ≤ wx.heap.size
  lt : cb < base
  lt2 : w.heap.size < base
theorem RSt.keep {w : World} {l1 h1 s1 l h s : Int} {cb base : Nat} {v : Value} {L : List R3} {w1 w2 : World} (r : RSt w l1 h1 s1 l h s cb base v L w1) (hb : Below w1.heap.size w1 w2) : RSt w l1 h1 s1 l h s cb base v L w2 :=
  ⟨r.below.trans (hb.mono r.below.size), r.a.keep hb, r.c.keep hb, owns_below r.own hb, Nat.le_trans r.size hb.size, r.lt, r.lt2⟩
theorem b3_under {g B : Nat} {a b c : Value} {w w1 : World} (k : B3 g a b c w) (hb : Below B w w1) (hg : g < B) : B3 g a b c w1 :=
  ⟨Nat.lt_of_lt_of_le k.size hb.size, (hb.cell (p := ⟨g, 0, none⟩) hg).trans k.c0, (hb.cell (p := ⟨g, 1, none⟩) hg).trans k.c1, (hb.cell (p := ⟨g, 2, none⟩) hg).trans k.c2,
    (hb.frozen (p := ⟨g, 0, none⟩) hg).trans k.f0, (hb.frozen (p := ⟨g, 1, none⟩) hg).trans k.f1, (hb.frozen (p := ⟨g, 2, none⟩) hg).trans k.f2⟩
theorem RSt.put {w : World} {l1 h1 s1 l h s : Int} {cb base : Nat} {v : Value} {L : List R3} {w1 : World} (r : Hid (RSt w l1 h1 s1 l h s cb base v L w1)) (lo hi st : Int) (dn : Bool) (hn : L.length ≤ 5000) :
    Calls Try.prog 121 #[v, .agg #[.int .i64 (nL lo hi), .int .i64 (nH lo hi), .int .i64 (nS lo hi st dn)]] w1 fun e w2 => ∃ v2, e = .returned v2 ∧ Hid (RSt w l1 h1 s1 l h s cb base v2 (addP L lo hi st dn) w2) :=
  (put_nrm v L lo hi st dn base w1 r.out.own r.out.size hn).mono fun _ _ ⟨v2, he, ho, hb⟩ => ⟨v2, he, r.out.below.trans (hb.mono (by have := r.out.lt2; omega)), b3_under r.out.a hb r.out.lt2, b3_under r.out.c hb r.out.lt, ho, Nat.le_trans r.out.size hb.size, r.out.lt, r.out.lt2⟩

set_option maxRecDepth 100000 in
set_option maxHeartbeats 6400000 in
theorem refSubtract_ok (l1 h1 s1 l2 h2 s2 : Int) (w : World) (hA : Hid (chk l1 h1 s1 = 0)) (hB : Hid (chk l2 h2 s2 = 0)) :
    Calls Try.prog 43 #[.agg #[.int .i64 l1, .int .i64 h1, .int .i64 s1], .agg #[.int .i64 l2, .int .i64 h2, .int .i64 s2]] w (SubDir l1 h1 s1 l2 h2 s2 w) := by
  have bA := chk_bounds hA.out
  go_enter Try.func43, Try.ntmps43
  go_wp2_with fail
  refine (refIntersect_dir _ _ _ _ _ _ _ hA hB).mono ?_
  rintro e w1 ⟨l, h, s, hF, rfl, hb1⟩
  have R1 := Lib.hid (res22 hb1)
  have HF : Hid (InterF l1 h1 s1 l2 h2 s2 l h s) := Lib.hid hF
  have bC := chk_bounds hF.1
  have HCH := Lib.hid hF.1
  clear hb1 hF
  have z1 := R1.out.1.size
  have RS : Hid (RSt w l1 h1 s1 l h s w1.heap.size (w1.heap.size + 1) (.slice (some ⟨w1.heap.size + 1, 0, none⟩) 0 0) [] ((w1.alloc (.cells #[.int .i64 l, .int .i64 h, .int .i64 s] 23)).alloc (.cells #[] 23))) := Lib.hid
    ⟨(R1.out.1.trans ((below_new _ _).mono z1)).trans ((below_new _ _).mono (by simp; omega)), (R1.out.2.1.keep (below_new _ _)).keep (below_new _ _), (B3.new _ _ _ _ _).keep (below_new _ _),
      by have q := World.ownsRow_lit (base := w1.heap.size + 1) (e := 23) (size := 3) (w1.alloc (.cells #[.int .i64 l, .int .i64 h, .int .i64 s] 23)) #[] 0 (by simp) (by unfold maxLen; omega) (by simp)
         have e1 : (w1.alloc (.cells #[.int .i64 l, .int .i64 h, .int .i64 s] 23)).heap.size = w1.heap.size + 1 := by simp
         rw [e1] at q
         exact q, by simp, by omega, by omega⟩
  go_upto_region 5 with fail
  clear R1 z1
  generalize ((w1.alloc (.cells #[.int .i64 l, .int .i64 h, .int .i64 s] 23)).alloc (.cells #[] 23)) = w3 at *
  generalize Value.slice (some ⟨w1.heap.size + 1, 0, none⟩) 0 0 = v0 at *
  generalize w1.heap.size + 1 = base at *
  generalize w1.heap.size = cb at *
  have x0 := RS.out.a.c0
  have y0 := RS.out.c.c0
  have x1 := RS.out.a.c1
  have y1 := RS.out.c.c1
  have x2 := RS.out.a.c2
  have y2 := RS.out.c.c2
  go_wp2_with fail
  refine (refIsEmpty_any _ _ _ _).mono ?_
  rintro e w4 ⟨rfl, hb4⟩
  have S4 := Lib.hid (RS.out.keep hb4)
  clear hb4 RS
  clear x0 x1 x2 y0 y1 y2
  have x0 := S4.out.a.c0
  have y0 := S4.out.c.c0
  have x1 := S4.out.a.c1
  have y1 := S4.out.c.c1
  have x2 := S4.out.a.c2
  have y2 := S4.out.c.c2
  by_cases cl : l ≤ h
  · have EL : Hid (subAll l1 h1 s1 l h s = subL l1 h1 (magA s1) l h (magA s) (decide (s1 < 0))) := Lib.hid (if_pos cl)
    rw [show reqB l h s 1 0 1 = false by unfold reqB; simp; omega]
    have CLE := Lib.hid cl
    clear cl
    have zz4 : w.heap.size < w4.heap.size := S4.out.a.size
    go_upto_region 7 with fail
    refine wp_region_held_drew (S := (fun w' => w'.cell? ⟨w.heap.size, 0, none⟩ = some (.int .i64 l1) ∧ w'.cell? ⟨w.heap.size, 1, none⟩ = some (.int .i64 h1) ∧ w'.cell? ⟨w.heap.size, 2, none⟩ = some (.int .i64 s1))) (by kernel_rfl) ?_ (fun hHeld => ?_)
    · first | exact hHeld | exact ⟨x0, x1, x2⟩ | (simp [go_sem, *]; done)
    refine wpAnyH_take (i := 0) (oi := { dst := some 29, op := Op.load 23 (Operand.tmp 2), type := 23, pos := "ref.go:327", after := #[], guard := none }) (v := ?_) rfl (by kernel_rfl) (by kernel_rfl) (by kernel_rfl) (fun _ _ _ h => h) (Or.inl ⟨by rfl, ?_⟩) (by assumption) ?_
    rotate_left
    · (intro w hSw; (try dsimp only at hSw); go_simp; first | done | with_reducible rfl)
    try simp only [Act.put, List.setIfInBounds_toArray, List.set_cons_zero, List.set_cons_succ]
    refine wpAnyH_take (i := 2) (oi := { dst := some 31, op := Op.fieldAddr 23 (Operand.tmp 2) 2, type := 0, pos := "ref.go:327", after := #[{ on := 5, ground := Ground.gcOnly Departure.lateStores }], guard := none }) (v := ?_) rfl (by kernel_rfl) (by kernel_rfl) (by kernel_rfl) (fun _ _ _ h => h) (Or.inl ⟨by rfl, ?_⟩) (by assumption) ?_
    rotate_left
    · (intro w hSw; (try dsimp only at hSw); go_simp; first | done | with_reducible rfl)
    try simp only [Act.put, List.setIfInBounds_toArray, List.set_cons_zero, List.set_cons_succ]
    refine wpAnyH_take (i := 3) (oi := { dst := some 32, op := Op.load 3 (Operand.tmp 31), type := 3, pos := "ref.go:327", after := #[{ on := 2, ground := Ground.data }, { on := 5, ground := Ground.gcOnly Departure.lateStores }], guard := none }) (v := ?_) rfl (by kernel_rfl) (by kernel_rfl) (by kernel_rfl) (fun _ _ _ h => h) (Or.inl ⟨by rfl, ?_⟩) (by assumption) ?_
    rotate_left
    · (intro w hSw; (try dsimp only at hSw); go_simp; first | done | with_reducible rfl)
    try simp only [Act.put, List.setIfInBounds_toArray, List.set_cons_zero, List.set_cons_succ]
    refine wpAnyH_take (i := 4) (oi := { dst := some 33, op := Op.binOp BinOp.lss 3 (Operand.tmp 32) (Operand.const (Value.int IntKind.i64 0)) 3, type := 4, pos := "ref.go:327", after := #[{ on := 3, ground := Ground.data }, { on := 5, ground := Ground.gcOnly Departure.lateStores }], guard := none }) (v := ?_) rfl (by kernel_rfl) (by kernel_rfl) (by kernel_rfl) (fun _ _ _ h => h) (Or.inl ⟨by rfl, ?_⟩) (by assumption) ?_
    rotate_left
    · (intro w hSw; (try dsimp only at hSw); go_simp; first | done | with_reducible rfl)
    try simp only [Act.put, List.setIfInBounds_toArray, List.set_cons_zero, List.set_cons_succ]
    refine wpAnyH_ready (rs := [1]) (by kernel_rfl) (by simp) ?_
    refine AllReadyH.cons (o := { dst := some 30, op := Op.call { callee := Callee.value (Operand.func 103), args := #[Operand.tmp 29], argTypes := #[23] }, type := 3, pos := "ref.go:327", after := #[{ on := 0, ground := Ground.data }], guard := none }) rfl (fun K hK => ?_) AllReadyH.nil
    go_simp
    refine (refStep_any _ _ _ _ (by omega) (by omega)).mono ?_
    rintro e w5 ⟨rfl, hb5⟩
    have hb5 : Below w4.heap.size w4 w5 := ⟨hb5.os, hb5.tape, hb5.output, hb5.size, hb5.block⟩
    have S5 := Lib.hid (S4.out.keep hb5)
    go_wp2_with fail
    refine hK.out _ _ ?_ (fun hHeld1 => ?_)
    · (obtain ⟨q0, q1, q2⟩ := hHeld; exact ⟨(hb5.cell (p := ⟨w.heap.size, 0, none⟩) (by first | (simp; done) | (simp; omega))).trans q0, (hb5.cell (p := ⟨w.heap.size, 1, none⟩) (by first | (simp; done) | (simp; omega))).trans q1, (hb5.cell (p := ⟨w.heap.size, 2, none⟩) (by first | (simp; done) | (simp; omega))).trans q2⟩)
    clear hK K hHeld
    have hHeld := hHeld1
    clear hHeld1
    try simp only [Act.put, List.setIfInBounds_toArray, List.set_cons_zero, List.set_cons_succ]
    refine wpAnyH_take (i := 5) (oi := { dst := some 9, op := Op.assign (Operand.tmp 30), type := 3, pos := "ref.go:327", after := #[{ on := 1, ground := Ground.data }, { on := 1, ground := Ground.chain }, { on := 0, ground := Ground.phase }, { on := 1, ground := Ground.phase }, { on := 2, ground := Ground.textOnly Departure.lateStores }, { on := 3, ground := Ground.textOnly Departure.lateStores }, { on := 4, ground := Ground.textOnly Departure.lateStores }], guard := none }) (v := ?_) rfl (by kernel_rfl) (by kernel_rfl) (by kernel_rfl) (fun _ _ _ h => h) (Or.inl ⟨by rfl, ?_⟩) (by assumption) ?_
    rotate_left
    · (intro w hSw; (try dsimp only at hSw); go_simp; first | done | with_reducible rfl)
    try simp only [Act.put, List.setIfInBounds_toArray, List.set_cons_zero, List.set_cons_succ]
    refine wpAnyH_take (i := 6) (oi := { dst := some 10, op := Op.assign (Operand.tmp 33), type := 4, pos := "ref.go:327", after := #[{ on := 4, ground := Ground.data }, { on := 5, ground := Ground.chain }, { on := 0, ground := Ground.phase }, { on := 1, ground := Ground.phase }, { on := 2, ground := Ground.phase }, { on := 3, ground := Ground.phase }, { on := 4, ground := Ground.phase }, { on := 5, ground := Ground.phase }], guard := none }) (v := ?_) rfl (by kernel_rfl) (by kernel_rfl) (by kernel_rfl) (fun _ _ _ h => h) (Or.inl ⟨by rfl, ?_⟩) (by assumption) ?_
    rotate_left
    · (intro w hSw; (try dsimp only at hSw); go_simp; first | done | with_reducible rfl)
    try simp only [Act.put, List.setIfInBounds_toArray, List.set_cons_zero, List.set_cons_succ]
    refine wpAnyH_done (by kernel_rfl) ?_ _
    clear hHeld hb5 zz4 S4
    clear x0 x1 x2 y0 y1 y2
    have x0 := S5.out.a.c0
    have y0 := S5.out.c.c0
    have x1 := S5.out.a.c1
    have y1 := S5.out.c.c1
    have x2 := S5.out.a.c2
    have y2 := S5.out.c.c2
    have j1 : IntKind.i64.wrap (l - magA s1) = l - magA s1 := IntWalk.i64_in _ (by omega)
    go_wp2_with fail
    refine (refNormal_any _ _ _ _ _ (by omega) (by omega)).mono ?_
    rintro e w6 ⟨rfl, hb6⟩
    have S6 := Lib.hid (S5.out.keep hb6)
    clear hb6 S5 j1
    clear x0 x1 x2 y0 y1 y2
    go_wp2_with fail
    refine (RSt.put S6 _ _ _ _ (by simp)).mono ?_
    rintro e w7 ⟨v7, rfl, S7⟩
    clear S6
    have x0 := S7.out.a.c0
    have y0 := S7.out.c.c0
    have x1 := S7.out.a.c1
    have y1 := S7.out.c.c1
    have x2 := S7.out.a.c2
    have y2 := S7.out.c.c2
    go_upto_if 49 with fail
    go_cut [8] (fun s8 wx => ∃ v, s8 = v ∧ Hid (RSt w l1 h1 s1 l h s cb base v (midN l h (magA s1) (magA s) (decide (s1 < 0)) (addP [] l1 (l - magA s1) (magA s1) (decide (s1 < 0))) (subK (magA s) (magA s1))) wx) ∧ Hid ((midN l h (magA s1) (magA s) (decide (s1 < 0)) (addP [] l1 (l - magA s1) (magA s1) (decide (s1 < 0))) (subK (magA s) (magA s1))).length ≤ 4000))
    case first =>
      by_cases ch : l < h
      · have st := step_next HCH.out ch
        have kb := subK_bd (t := magA s) (m := magA s1) (by omega) (by omega)
        have KB := Lib.hid kb
        have ST1 := Lib.hid st
        have CH := Lib.hid ch
        have d0 : ¬ magA s1 = 0 := by omega
        have j2 : IntKind.i64.wrap ((magA s).tdiv (magA s1)) = magA s / magA s1 := IntWalk.i64_quo _ _ ⟨by omega, by omega, by omega⟩
        clear st kb
        go_wp2_with fail
        refine (refStep_any _ _ _ _ (by omega) (by omega)).mono ?_
        rintro e w8 ⟨rfl, hb8⟩
        have S8 := Lib.hid (S7.out.keep hb8)
        clear hb8 S7 ch
        clear x0 x1 x2 y0 y1 y2
        have x0 := S8.out.a.c0
        have y0 := S8.out.c.c0
        have x1 := S8.out.a.c1
        have y1 := S8.out.c.c1
        have x2 := S8.out.a.c2
        have y2 := S8.out.c.c2
        by_cases g3 : 1002 < magA s / magA s1
        · have big : Hid (1000 < (subAll l1 h1 s1 l h s).length) := Lib.hid (by
            rw [EL.out]
            have q1 := (addP_le (midN l h (magA s1) (magA s) (decide (s1 < 0)) (addP [] l1 (l - magA s1) (magA s1) (decide (s1 < 0))) (subK (magA s) (magA s1))) (h + magA s1) h1 (magA s1) (decide (s1 < 0))).1
            have q2 := midN_len (m := magA s1) (dn := decide (s1 < 0)) (L := (addP [] l1 (l - magA s1) (magA s1) (decide (s1 < 0)))) ST1.out.1 (subK (magA s) (magA s1))
            have q3 := KB.out.1
            unfold subL
            omega)
          go_wp2_with fail
          exact bodyPost_ret (v := .tuple #[.slice none 0 0, .int .i64 7]) (by simp [results, Try.results43, go_sem, *]) rfl ⟨l, h, s, HF.out, _, _, rfl, S8.out.below, Or.inl ⟨big.out, rfl, rfl⟩⟩
        · have KK : Hid (subK (magA s) (magA s1) ≤ 1002) := Lib.hid (by have := KB.out.2; omega)
          clear KB j2
          go_wp2_with fail
          go_loopg [8, 12, 13] (subK (magA s) (magA s1) + 1) (fun gh v8 v12 _ wr => ∃ (k : Nat) (kk : Int), v12 = .int .i64 kk ∧ (Hid (kk = (k : Int) + 1) ∧ k ≤ subK (magA s) (magA s1) ∧ subK (magA s) (magA s1) - k < gh) ∧ Hid (RSt w l1 h1 s1 l h s cb base v8 (midN l h (magA s1) (magA s) (decide (s1 < 0)) (addP [] l1 (l - magA s1) (magA s1) (decide (s1 < 0))) k) wr))
          case atStart => exact ⟨0, 1, rfl, ⟨Lib.hid (by simp), by omega, by omega⟩, S8⟩
          case round =>
            obtain ⟨k, kk, rfl, ⟨hkk, k0, kg⟩, S9⟩ := hrel
            have KG := Lib.hid kg
            have K0 := Lib.hid k0
            have k1 : 1 ≤ kk := by have := hkk.out; omega
            have k2 : kk ≤ 1003 := by have := hkk.out; have := KK.out; omega
            have pm : 1 ≤ kk * magA s1 ∧ kk * magA s1 ≤ 1003 * 2000000 := mul_le kk (magA s1) 1003 2000000 k1 k2 (by omega) (by omega)
            clear kg k0 S8
            clear x0 x1 x2 y0 y1 y2
            have x0 := S9.out.a.c0
            have y0 := S9.out.c.c0
            have x1 := S9.out.a.c1
            have y1 := S9.out.c.c1
            have x2 := S9.out.a.c2
            have y2 := S9.out.c.c2
            have j3 : IntKind.i64.wrap (kk * magA s1) = kk * magA s1 := IntWalk.i64_in _ (by omega)
            by_cases g4 : kk * magA s1 < magA s
            · have j4 : IntKind.i64.wrap (l + kk * magA s1) = l + kk * magA s1 := IntWalk.i64_in _ (by omega)
              have j5 : IntKind.i64.wrap (kk + 1) = kk + 1 := IntWalk.i64_in _ (by omega)
              have UV : Hid (uptoI (l + kk * magA s1) h (magA s) = h - magA s + kk * magA s1) := Lib.hid (upto_val CH.out (by omega) ST1.out.2 (by omega) g4)
              have KM : Hid (k < subK (magA s) (magA s1)) := Lib.hid (subK_more (by omega) (by rw [← hkk.out]; exact g4))
              have LL : Hid ((midN l h (magA s1) (magA s) (decide (s1 < 0)) (addP [] l1 (l - magA s1) (magA s1) (decide (s1 < 0))) k).length ≤ 2000) := Lib.hid (by
                have q2 := midN_len (m := magA s1) (dn := decide (s1 < 0)) (L := (addP [] l1 (l - magA s1) (magA s1) (decide (s1 < 0)))) ST1.out.1 k
                have q4 := (addP_le [] l1 (l - magA s1) (magA s1) (decide (s1 < 0))).2
                have := K0.out
                have := KK.out
                simp at q4
                omega)
              go_wp2_with fail
              refine (upto_any _ _ _ _ (by omega) (by omega) (by omega) (by omega) (by omega) (by omega)).mono ?_
              rintro e w' ⟨rfl, rfl⟩
              rw [UV.out]
              go_wp2_with fail
              refine (refNormal_any _ _ _ _ _ (by omega) (by omega)).mono ?_
              rintro e w10 ⟨rfl, hb10⟩
              have S10 := Lib.hid (S9.out.keep hb10)
              clear hb10 S9
              clear x0 x1 x2 y0 y1 y2
              go_wp2_with fail
              refine (RSt.put S10 _ _ _ _ (by have := LL.out; omega)).mono ?_
              rintro e w11 ⟨v11, rfl, S11⟩
              clear S10
              go_wp2_with fail
              go_roundg (subK (magA s) (magA s1) - k)
              case measure => exact KG.out
              case rel =>
                refine ⟨k + 1, kk + 1, rfl, ⟨Lib.hid (by have := hkk.out; omega), KM.out, by have := KM.out; omega⟩, ?_⟩
                have e := S11.out
                rw [hkk.out] at e
                exact e
            · have KE : k = subK (magA s) (magA s1) := subK_end (by omega) (by omega) K0.out (by rw [← hkk.out]; exact g4)
              have LL : Hid ((midN l h (magA s1) (magA s) (decide (s1 < 0)) (addP [] l1 (l - magA s1) (magA s1) (decide (s1 < 0))) k).length ≤ 4000) := Lib.hid (by
                have q2 := midN_len (m := magA s1) (dn := decide (s1 < 0)) (L := (addP [] l1 (l - magA s1) (magA s1) (decide (s1 < 0)))) ST1.out.1 k
                have q4 := (addP_le [] l1 (l - magA s1) (magA s1) (decide (s1 < 0))).2
                have := K0.out
                have := KK.out
                simp at q4
                omega)
              have KE' := Lib.hid KE
              clear KE
              go_wp2_with fail
              go_meet
              exact ⟨_, rfl, by rw [← KE'.out]; exact S9, by rw [← KE'.out]; exact LL⟩
      · have Z := Lib.hid (single_step HCH.out CLE.out ch (magA s1) (by omega))
        go_wp2_with fail
        go_meet
        refine ⟨_, rfl, by rw [Z.out]; exact S7, Lib.hid ?_⟩
        have q4 := (addP_le [] l1 (l - magA s1) (magA s1) (decide (s1 < 0))).2
        rw [Z.out]
        simp only [midN]
        simp at q4
        omega
    case rest =>
      obtain ⟨v, rfl, S8, HL8⟩ := hcut
      clear S7
      clear x0 x1 x2 y0 y1 y2
      have x0 := S8.out.a.c0
      have y0 := S8.out.c.c0
      have x1 := S8.out.a.c1
      have y1 := S8.out.c.c1
      have x2 := S8.out.a.c2
      have y2 := S8.out.c.c2
      have j2 : IntKind.i64.wrap (h + magA s1) = h + magA s1 := IntWalk.i64_in _ (by omega)
      go_wp2_with fail
      refine (refNormal_any _ _ _ _ _ (by omega) (by omega)).mono ?_
      rintro e w9 ⟨rfl, hb9⟩
      have S9 := Lib.hid (S8.out.keep hb9)
      clear hb9 S8
      clear x0 x1 x2 y0 y1 y2
      go_wp2_with fail
      refine (RSt.put S9 _ _ _ _ (by have := HL8.out; omega)).mono ?_
      rintro e w10 ⟨v10, rfl, S10⟩
      generalize hL : addP (midN l h (magA s1) (magA s) (decide (s1 < 0)) (addP [] l1 (l - magA s1) (magA s1) (decide (s1 < 0))) (subK (magA s) (magA s1))) (h + magA s1) h1 (magA s1) (decide (s1 < 0)) = LL at S10
      have HLL : Hid (subAll l1 h1 s1 l h s = LL) := Lib.hid (EL.out.trans hL)
      obtain ⟨ao, cap, rfl⟩ := owns_slice S10.out.own
      clear hL S9 HL8 EL
      by_cases g2 : (1000 : Int) < LL.length
      · have G2 := Lib.hid g2
        go_wp2_with fail
        refine bodyPost_ret (v := .tuple #[.slice none 0 0, .int .i64 7]) (by simp [results, Try.results43, go_sem, *]) rfl ⟨l, h, s, HF.out, _, _, rfl, S10.out.below, Or.inl ⟨?_, rfl, rfl⟩⟩
        rw [HLL.out]; have := G2.out; omega
      · have G2 := Lib.hid g2
        go_wp2_with fail
        refine bodyPost_ret (v := .tuple #[.slice ao LL.length cap, .int .i64 0]) (by simp [results, Try.results43, go_sem, *]) rfl ⟨l, h, s, HF.out, _, _, rfl, S10.out.below, Or.inr ?_⟩
        rw [HLL.out]
        exact ⟨by have := G2.out; omega, rfl, owns_base S10.out.own (by have := S10.out.lt2; omega)⟩
  · have EL : Hid (subAll l1 h1 s1 l h s = putP [] l1 h1 s1) := Lib.hid (by
      unfold subAll putP
      rw [if_neg cl]
      by_cases c : l1 ≤ h1
      · rw [if_pos c, if_neg (by unfold reqB; simp; omega)]; rfl
      · rw [if_neg c, if_pos (by have := le_of_chk hA.out c; unfold reqB; simp; omega)])
    rw [show reqB l h s 1 0 1 = true by have := le_of_chk HCH.out cl; unfold reqB; simp; omega]
    clear cl
    go_wp2_with fail
    refine (put_any v0 [] l1 h1 s1 base w4 S4.out.own S4.out.size (by simp)).mono ?_
    rintro e w5 ⟨v5, rfl, ho, hb5⟩
    have HO := Lib.hid ho
    have W5 := Lib.hid (S4.out.below.trans (hb5.mono (by have := S4.out.lt2; omega)))
    have HB := Lib.hid S4.out.lt2
    clear ho hb5 S4
    clear x0 x1 x2 y0 y1 y2
    go_wp2_with fail
    refine bodyPost_ret (v := .tuple #[v5, .int .i64 0]) (by simp [results, Try.results43, go_sem, *]) rfl ⟨l, h, s, HF.out, _, _, rfl, W5.out, Or.inr ?_⟩
    rw [EL.out]
    refine ⟨?_, rfl, owns_base HO.out (by have := HB.out; omega)⟩
    unfold putP; split <;> simp
end Go.Proofs.Ytdifilndpilboaa
