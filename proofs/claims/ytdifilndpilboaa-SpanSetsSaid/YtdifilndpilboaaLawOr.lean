/-
  The walk of the law SpanOrders: it returns true for every range, and no block that was there before has changed.
-/
import Derived.Test.YtdifilndpilboaaNumB
import Derived.Test.YtdifilndpilboaaLawOf
import Derived.WalkKit
import Derived.Deep.RegionWith
import Derived.Deep.DeepCutAuto
import Derived.Deep.LoopGhost
import Derived.Deep.CutBlock
import Derived.WalkSpells
import Derived.WalkLawsBesides
import Derived.BigQuiet
import Derived.Deep.QuietTactic
import Derived.Deep.RegionHeld3
import Derived.Deep.DrawnRows
import Derived.Lib.Hide
namespace Go.Proofs.Ytdifilndpilboaa
open Go.RowKit

/-- whether a range is right and has few numbers -/
def smB (l h s : Int) : Bool := decide (chk l h s = 0) && decide (siz l h s ≤ 400)
set_option maxHeartbeats 1600000 in
theorem small_any (l h s : Int) (w : World) (hl : I64 l) (hh : I64 h) (hs : I64 s) :
    Calls Try.prog 49 #[.agg #[.int .i64 l, .int .i64 h, .int .i64 s]] w fun e w' => e = .returned (.bool (smB l h s)) ∧ Below w.heap.size w w' := by
  go_enter Try.func49, Try.ntmps49
  go_wp2_with fail
  refine (check64 _ _ _ _ hl hh hs).mono ?_
  rintro e w1 ⟨rfl, hb1⟩
  obtain ⟨W1, z1, x0, x1, x2⟩ := box3 hb1
  clear hb1
  by_cases c : chk l h s = 0
  · have c' : (chk l h s == 0) = true := by simp [c]
    have E : Hid (smB l h s = decide (siz l h s ≤ 400)) := Lib.hid (by unfold smB; simp [c])
    generalize chk l h s = z at c' ⊢
    clear c
    go_wp2_with fail
    refine (Size_any _ _ _ _ hl hh hs).mono ?_
    rintro e w2 ⟨rfl, hb2⟩
    have W2 := hidTrans W1 hb2 (by omega)
    clear hb2 W1 x0 x1 x2
    go_wp2
    rw [E.out]
    exact bodyPost_ret (v := .bool (decide (siz l h s ≤ 400))) (by simp [results, Try.results49, go_sem, *]) rfl ⟨rfl, W2.out⟩
  · have c' : (chk l h s == 0) = false := by simp [c]
    have E : Hid (smB l h s = false) := Lib.hid (by unfold smB; simp [c])
    generalize chk l h s = z at c' ⊢
    clear c
    go_wp2
    rw [E.out]
    exact bodyPost_ret (v := .bool false) (by simp [results, Try.results49, go_sem, *]) rfl ⟨rfl, W1.out⟩

theorem nthV_in {l h s : Int} (hk : chk l h s = 0) {k : Nat} (hn : (k : Int) < siz l h s) : posB l h s (nthV l h s k) = true ∧ posN l h s (nthV l h s k) = k ∧ l ≤ nthV l h s k ∧ nthV l h s k ≤ h := by
  have bA := chk_bounds hk
  have le : l ≤ h := by
    by_cases c : l ≤ h
    · exact c
    · have := empty_a hk c; omega
  obtain ⟨st, z, m, s0⟩ := steps_a hk le
  have bd := mul_bd (k : Int) (h - l) (magA s) (by omega) (by rw [← siz_ok hk le]; exact hn) (by omega)
  have hd : magA s ∣ h - l := ⟨siz l h s - 1, by rw [st, Int.mul_comm]⟩
  have mem : l ≤ nthV l h s k ∧ nthV l h s k ≤ h ∧ (nthV l h s k - l) % magA s = 0 := by
    unfold nthV
    split
    · refine ⟨by omega, by omega, Int.emod_eq_zero_of_dvd ?_⟩
      rw [show h - (k : Int) * magA s - l = (h - l) - (k : Int) * magA s by omega]
      exact Int.dvd_sub hd (Int.dvd_mul_left _ _)
    · refine ⟨by omega, by omega, Int.emod_eq_zero_of_dvd ?_⟩
      rw [show l + (k : Int) * magA s - l = (k : Int) * magA s by omega]
      exact Int.dvd_mul_left _ _
  have p : posB l h s (nthV l h s k) = true := decide_eq_true ⟨hk, mem.1, mem.2.1, mem.2.2⟩
  refine ⟨p, ?_, mem.1, mem.2.1⟩
  unfold posN
  rw [if_pos p]
  unfold nthV
  by_cases c : s < 0
  · rw [if_pos c, if_pos c, show h - (h - (k : Int) * magA s) = (k : Int) * magA s by omega, Int.mul_ediv_cancel _ (by omega)]
  · rw [if_neg c, if_neg c, show l + (k : Int) * magA s - l = (k : Int) * magA s by omega, Int.mul_ediv_cancel _ (by omega)]
theorem nthV_step (l h s : Int) (j : Nat) (_hs : magA s = s ∨ s < 0) : nthV l h s (j + 1) - nthV l h s j = s := by
  unfold nthV
  by_cases c : s < 0
  · have e := magA_neg c
    rw [if_pos c, if_pos c, e]; push_cast; rw [Int.add_mul]; omega
  · have e := magA_pos (show 0 ≤ s by omega)
    rw [if_neg c, if_neg c, e]; push_cast; rw [Int.add_mul]; omega
theorem nth_at (l h s : Int) (k : Nat) (w : World) (hk : chk l h s = 0) (hn : (k : Int) < siz l h s) :
    Calls Try.prog 17 #[.agg #[.int .i64 l, .int .i64 h, .int .i64 s], .int .i64 k] w fun e w' => e = .returned (.tuple #[.int .i64 (nthV l h s k), .int .i64 0]) ∧ Below w.heap.size w w' := by
  have bA := chk_bounds hk
  have e0 : nthE l h s k = 0 := by unfold nthE; rw [if_pos hk, if_pos ⟨by omega, hn⟩]
  have e1 : nthN l h s k = nthV l h s k := by unfold nthN; rw [if_pos e0]; rfl
  have := Nth_any l h s k w ⟨by omega, by omega⟩ ⟨by omega, by omega⟩ ⟨by omega, by omega⟩
  rwa [e0, e1] at this
theorem nth_end (l h s : Int) (w : World) (hk : chk l h s = 0) :
    Calls Try.prog 17 #[.agg #[.int .i64 l, .int .i64 h, .int .i64 s], .int .i64 (siz l h s)] w fun e w' => e = .returned (.tuple #[.int .i64 0, .int .i64 4]) ∧ Below w.heap.size w w' := by
  have bA := chk_bounds hk
  have e0 : nthE l h s (siz l h s) = 4 := by unfold nthE; rw [if_pos hk, if_neg (by omega)]
  have e1 : nthN l h s (siz l h s) = 0 := by unfold nthN; rw [if_neg (by omega)]
  have := Nth_any l h s (siz l h s) w ⟨by omega, by omega⟩ ⟨by omega, by omega⟩ ⟨by omega, by omega⟩
  rwa [e0, e1] at this
theorem pos_at (l h s : Int) (k : Nat) (w : World) (hk : chk l h s = 0) (hn : (k : Int) < siz l h s) :
    Calls Try.prog 19 #[.agg #[.int .i64 l, .int .i64 h, .int .i64 s], .int .i64 (nthV l h s k)] w fun e w' => e = .returned (.tuple #[.int .i64 k, .bool true]) ∧ Below w.heap.size w w' := by
  have p := nthV_in hk hn
  have := pos_yes l h s (nthV l h s k) w p.1
  rwa [p.2.1] at this
theorem has_at (l h s : Int) (k : Nat) (w : World) (hk : chk l h s = 0) (hn : (k : Int) < siz l h s) :
    Calls Try.prog 25 #[.agg #[.int .i64 l, .int .i64 h, .int .i64 s], .int .i64 (nthV l h s k)] w fun e w' => e = .returned (.bool true) ∧ Below w.heap.size w w' := by
  have bA := chk_bounds hk
  have p := nthV_in hk hn
  have := Has_any l h s (nthV l h s k) w ⟨by omega, by omega⟩ ⟨by omega, by omega⟩ ⟨by omega, by omega⟩ ⟨by omega, by omega⟩
  rwa [p.1] at this
theorem of_self (l h s : Int) (w : World) (hk : chk l h s = 0) (c : -1000000 ≤ s ∧ s ≤ 1000000) :
    Calls Try.prog 15 #[.int .i64 l, .int .i64 h, .int .i64 s] w fun e w' => e = .returned (.tuple #[.agg #[.int .i64 l, .int .i64 h, .int .i64 s], .int .i64 0]) ∧ Below w.heap.size w w' := by
  have bA := chk_bounds hk
  have s0 : ¬ s = 0 := by intro e; subst e; simp [magA] at bA
  have e0 : ofE l h s = 0 := by unfold ofE; rw [if_neg s0, if_pos ⟨by omega, by omega, by omega⟩]
  have z : l ≤ h → (h - l) % magA s = 0 := fun le => by
    obtain ⟨st, _⟩ := steps_a hk le
    exact Int.emod_eq_zero_of_dvd ⟨siz l h s - 1, by rw [st, Int.mul_comm]⟩
  have e1 : ofLo l h s = l := by
    unfold ofLo; split
    · rename_i c; rw [z c.1]; omega
    · rfl
  have e2 : ofHi l h s = h := by
    unfold ofHi; split
    · rename_i c; rw [z c.1]; omega
    · rfl
  have e3 : nL l h = l ∧ nH l h = h ∧ nS l h (magA s) (decide (s < 0)) = s := by
    rcases chk_zero hk with ⟨rfl, rfl, rfl⟩ | ⟨_, le, _, _, _, _, _, _, _, one⟩
    · exact ⟨rfl, rfl, rfl⟩
    · unfold nL nH nS
      rw [if_neg (by omega), if_neg (by omega), if_neg (by omega)]
      refine ⟨rfl, rfl, ?_⟩
      by_cases eq : l = h
      · rw [if_pos eq, one eq]
      · rw [if_neg eq]
        by_cases c : s < 0
        · rw [if_pos (by simpa using c), magA_neg c]; omega
        · rw [if_neg (by simpa using c), magA_pos (by omega)]
  have e4 : ofL l h s = l ∧ ofH l h s = h ∧ ofS l h s = s := by
    unfold ofL ofH ofS
    rw [if_pos e0, if_pos e0, if_pos e0, e1, e2]
    exact e3
  have := Of_any l h s w
  rwa [e4.1, e4.2.1, e4.2.2, e0] at this
theorem below_al {w w1 w2 : World} {o : Obj} (h : Hid (Below w.heap.size w w1)) (hb : Below (w1.alloc o).heap.size (w1.alloc o) w2) : Hid (Below w.heap.size w w2) :=
  Lib.hid ((h.out.trans ((below_new w1 o).mono h.out.size)).trans (hb.mono (by have := h.out.size; simp; omega)))
theorem below_st {w w1 w2 : World} (h : Hid (Below w.heap.size w w1)) (hb : Below w1.heap.size w1 w2) : Hid (Below w.heap.size w w2) := Lib.hid (h.out.trans (hb.mono h.out.size))
/-- the law's box, and the slice that it walks -/
structure OSt (w : World) (l h s : Int) (base : Nat) (v : Value) (n : Nat) (wx : World) : Prop where
  below : Below w.heap.size w wx
  a : B3 w.heap.size (.int .i64 l) (.int .i64 h) (.int .i64 s) wx
  own : wx.ownsRow base 3 1 v n ((numsL l h s).map (Value.int .i64))
theorem OSt.keep {w : World} {l h s : Int} {base n : Nat} {v : Value} {w1 w2 : World} (o : OSt w l h s base v n w1) (hb : Below w1.heap.size w1 w2) : OSt w l h s base v n w2 :=
  ⟨o.below.trans (hb.mono o.below.size), o.a.keep hb, owns_below o.own hb⟩
theorem owns_addr {w : World} {base n cap : Nat} {e : TypeId} {size : Nat} {ao : Option Addr} {xs : List Value} (h : w.ownsRow base e size (.slice ao n cap) n xs) (hn : ¬ n = 0) : ∃ g, ao = some ⟨g, 0, none⟩ := by
  rcases h.2 with ⟨_, e⟩ | ⟨g, c, _, e, _⟩
  · exact absurd e hn
  · injection e with e1 e2 e3
    exact ⟨g, e1⟩
theorem numsL_length (l h s : Int) : (numsL l h s).length = (siz l h s).toNat := numsU_length l h s _
theorem numsL_get (l h s : Int) (k : Nat) (hk : k < (siz l h s).toNat) : (numsL l h s)[k]? = some (nthV l h s k) := by
  unfold numsL numsU; simp [hk]
theorem res1b {w w1 : World} {t : TypeId} {a b c : Value} (hb : Below (w.alloc (.cells #[a, b, c] t)).heap.size (w.alloc (.cells #[a, b, c] t)) w1) : Below w.heap.size w w1 ∧ B3 w.heap.size a b c w1 :=
  ⟨((below_new _ _)).trans (hb.mono (by simp)), (B3.new a b c t w).keep hb⟩

set_option maxRecDepth 100000 in
set_option maxHeartbeats 6400000 in
theorem spanOrders_walk (l h s : Int) (w : World) (hl : I64 l) (hh : I64 h) (hs : I64 s) :
    Calls Try.prog 6 #[.agg #[.int .i64 l, .int .i64 h, .int .i64 s]] w fun e w' => e = .returned (.bool true) ∧ Below w.heap.size w w' := by
  go_enter Try.func6, Try.ntmps6
  go_wp2_with fail
  refine (small_any _ _ _ _ hl hh hs).mono ?_
  rintro e w1 ⟨rfl, hb1⟩
  have R1 := res1b hb1
  have W1 := Lib.hid R1.1
  have A1 := Lib.hid R1.2
  clear hb1 R1
  cases hq : smB l h s
  · go_wp2_with fail
    refine (awake_any _).mono ?_
    rintro e w2 ⟨rfl, hb2⟩
    have W2 := Lib.hid (W1.out.trans (hb2.mono W1.out.size))
    clear hb2
    go_wp2
    go_ret
    exact ⟨rfl, W2.out⟩
  · have hc : chk l h s = 0 ∧ siz l h s ≤ 400 := by unfold smB at hq; simpa using hq
    have sb := siz_bdn hc.1
    have bA := chk_bounds hc.1
    have HC := Lib.hid hc.1
    have s4 := hc.2
    have x0 := A1.out.c0
    have x1 := A1.out.c1
    have x2 := A1.out.c2
    clear hc hq
    go_wp2_with fail
    refine (numbers_any _ _ _ _ _ HC (by omega) (by omega)).mono ?_
    rintro e w2 ⟨v, rfl, ho, hb2⟩
    have O2 : Hid (OSt w l h s w1.heap.size v (numsL l h s).length w2) := Lib.hid ⟨(Lib.hid (W1.out.trans (hb2.mono W1.out.size))).out, A1.out.keep hb2, ho.out⟩
    clear hb2 ho A1 W1 x0 x1 x2
    obtain ⟨ao, cap, rfl⟩ := owns_slice O2.out.own
    have x0 := O2.out.a.c0
    have x1 := O2.out.a.c1
    have x2 := O2.out.a.c2
    go_wp2_with fail
    refine (Size_any _ _ _ _ hl hh hs).mono ?_
    rintro e w3 ⟨rfl, hb3⟩
    have O3 := Lib.hid (O2.out.keep hb3)
    clear hb3 O2 x0 x1 x2
    have LN : (((numsL l h s).length : Nat) : Int) = siz l h s := by rw [numsL_length]; omega
    go_upto_block 0 with fail
    go_cut [4] (fun _ wx => Hid (OSt w l h s w1.heap.size (.slice ao (numsL l h s).length cap) (numsL l h s).length wx))
    case first =>
      by_cases n0 : (numsL l h s).length = 0
      · have n0' : ¬ 0 < siz l h s := by omega
        have LS := Lib.hid LN
        clear LN n0
        go_wp2_with fail
        go_loopg [4, 5, 6, 7, 8, 9, 27] 1 (fun gh _ _ _ _ _ _ v27 wr => v27 = .int .i64 0 ∧ 0 < gh ∧ Hid (OSt w l h s w1.heap.size (.slice ao (numsL l h s).length cap) (numsL l h s).length wr))
        case atStart => exact ⟨rfl, by omega, O3⟩
        case round =>
          obtain ⟨rfl, h0, O4⟩ := hrel
          go_wp2_with fail
          go_meet
          exact O4
      · obtain ⟨g, rfl⟩ := owns_addr O3.out.own n0
        have LS := Lib.hid LN
        clear n0
        generalize hN : (numsL l h s).length = N at *
        go_wp2_with fail
        go_loopg [4, 5, 6, 7, 8, 9, 27] (N + 1) (fun gh _ _ _ _ _ _ v27 wr => ∃ k : Nat, v27 = .int .i64 k ∧ (k ≤ N ∧ N - k < gh) ∧ Hid (OSt w l h s w1.heap.size (.slice (some ⟨g, 0, none⟩) N cap) N wr))
        case atStart => exact ⟨0, rfl, ⟨by omega, by omega⟩, O3⟩
        case round =>
          obtain ⟨k, rfl, ⟨k0, kg⟩, O4⟩ := hrel
          have KG := Lib.hid kg
          clear kg O3
          by_cases hk : k < N
          · have ks : (k : Int) < siz l h s := by have := LS.out; omega
            have cl : wr.cell? ⟨g, k, none⟩ = some (.int .i64 (nthV l h s k)) := by
              rw [O4.out.own.cellAt k (by omega)]
              simp [numsL_get l h s k (by rw [← numsL_length, hN]; exact hk)]
            have x0 := O4.out.a.c0
            have x1 := O4.out.a.c1
            have x2 := O4.out.a.c2
            go_wp2_with fail
            refine (nth_at l h s k _ HC.out ks).mono ?_
            rintro e w5 ⟨rfl, hb5⟩
            have O5 := Lib.hid (O4.out.keep hb5)
            clear hb5 O4 x0 x1 x2 cl
            have x0 := O5.out.a.c0
            have x1 := O5.out.a.c1
            have x2 := O5.out.a.c2
            go_wp2_with fail
            refine (pos_at l h s k _ HC.out ks).mono ?_
            rintro e w6 ⟨rfl, hb6⟩
            have O6 := Lib.hid (O5.out.keep hb6)
            clear hb6 O5 x0 x1 x2
            have x0 := O6.out.a.c0
            have x1 := O6.out.a.c1
            have x2 := O6.out.a.c2
            have pb := nthV_in HC.out ks
            have jk : IntKind.i64.wrap ((k : Int) + 1) = (k : Int) + 1 := IntWalk.i64_in _ (by omega)
            have zs := O6.out.a.size
            go_upto_region 11 with fail
            by_cases kz : k = 0
            · subst kz
              refine wp_region_held_drew (S := (fun w' => w'.cell? ⟨w.heap.size, 0, none⟩ = some (.int .i64 l) ∧ w'.cell? ⟨w.heap.size, 1, none⟩ = some (.int .i64 h) ∧ w'.cell? ⟨w.heap.size, 2, none⟩ = some (.int .i64 s))) (by kernel_rfl) ?_ (fun hHeld => ?_)
              · first | exact hHeld | exact ⟨x0, x1, x2⟩ | exact ⟨x0, x1, x2, cj⟩ | (simp [go_sem, *]; done)
              refine wpAnyH_take (i := 0) (oi := { dst := some 44, op := Op.move (Operand.tmp 7), type := 24, pos := "outright.go:35", after := #[], guard := none }) (v := ?_) rfl (by kernel_rfl) (by kernel_rfl) (by kernel_rfl) (fun _ _ _ h => h) (Or.inl ⟨by rfl, ?_⟩) (by assumption) ?_
              rotate_left
              · (intro w hSw; (try dsimp only at hSw); go_simp; first | done | with_reducible rfl)
              try simp only [Act.put, List.setIfInBounds_toArray, List.set_cons_zero, List.set_cons_succ]
              refine wpAnyH_take (i := 1) (oi := { dst := some 45, op := Op.binOp BinOp.neq 24 (Operand.tmp 44) (Operand.const (Value.int IntKind.i64 0)) 24, type := 4, pos := "outright.go:35", after := #[{ on := 0, ground := Ground.data }], guard := none }) (v := ?_) rfl (by kernel_rfl) (by kernel_rfl) (by kernel_rfl) (fun _ _ _ h => h) (Or.inl ⟨by rfl, ?_⟩) (by assumption) ?_
              rotate_left
              · (intro w hSw; (try dsimp only at hSw); go_simp; first | done | with_reducible rfl)
              try simp only [Act.put, List.setIfInBounds_toArray, List.set_cons_zero, List.set_cons_succ]
              refine wpAnyH_take (i := 2) (oi := { dst := some 46, op := Op.move (Operand.tmp 45), type := 4, pos := "outright.go:35", after := #[{ on := 1, ground := Ground.data }], guard := none }) (v := ?_) rfl (by kernel_rfl) (by kernel_rfl) (by kernel_rfl) (fun _ _ _ h => h) (Or.inl ⟨by rfl, ?_⟩) (by assumption) ?_
              rotate_left
              · (intro w hSw; (try dsimp only at hSw); go_simp; first | done | with_reducible rfl)
              try simp only [Act.put, List.setIfInBounds_toArray, List.set_cons_zero, List.set_cons_succ]
              refine wpAnyH_take (i := 3) (oi := { dst := some 47, op := Op.move (Operand.tmp 6), type := 3, pos := "outright.go:35", after := #[{ on := 2, ground := Ground.guard }], guard := some (2, false) }) (v := ?_) rfl (by kernel_rfl) (by kernel_rfl) (by kernel_rfl) (fun _ _ _ h => h) (Or.inl ⟨by rfl, ?_⟩) (by assumption) ?_
              rotate_left
              · (intro w hSw; (try dsimp only at hSw); go_simp; first | done | with_reducible rfl)
              try simp only [Act.put, List.setIfInBounds_toArray, List.set_cons_zero, List.set_cons_succ]
              refine wpAnyH_take (i := 4) (oi := { dst := some 48, op := Op.move (Operand.tmp 5), type := 3, pos := "outright.go:35", after := #[{ on := 2, ground := Ground.guard }], guard := some (2, false) }) (v := ?_) rfl (by kernel_rfl) (by kernel_rfl) (by kernel_rfl) (fun _ _ _ h => h) (Or.inl ⟨by rfl, ?_⟩) (by assumption) ?_
              rotate_left
              · (intro w hSw; (try dsimp only at hSw); go_simp; first | done | with_reducible rfl)
              try simp only [Act.put, List.setIfInBounds_toArray, List.set_cons_zero, List.set_cons_succ]
              refine wpAnyH_take (i := 5) (oi := { dst := some 49, op := Op.binOp BinOp.neq 3 (Operand.tmp 47) (Operand.tmp 48) 3, type := 4, pos := "outright.go:35", after := #[{ on := 3, ground := Ground.data }, { on := 4, ground := Ground.data }, { on := 2, ground := Ground.guard }], guard := some (2, false) }) (v := ?_) rfl (by kernel_rfl) (by kernel_rfl) (by kernel_rfl) (fun _ _ _ h => h) (Or.inl ⟨by rfl, ?_⟩) (by assumption) ?_
              rotate_left
              · (intro w hSw; (try dsimp only at hSw); go_simp; first | done | with_reducible rfl)
              try simp only [Act.put, List.setIfInBounds_toArray, List.set_cons_zero, List.set_cons_succ]
              refine wpAnyH_take (i := 6) (oi := { dst := some 50, op := Op.pick (Operand.tmp 46) (Operand.const (Value.bool true)) (Operand.tmp 49), type := 4, pos := "outright.go:35", after := #[{ on := 2, ground := Ground.data }, { on := 5, ground := Ground.data }], guard := none }) (v := ?_) rfl (by kernel_rfl) (by kernel_rfl) (by kernel_rfl) (fun _ _ _ h => h) (Or.inl ⟨by rfl, ?_⟩) (by assumption) ?_
              rotate_left
              · (intro w hSw; (try dsimp only at hSw); go_simp; first | done | with_reducible rfl)
              try simp only [Act.put, List.setIfInBounds_toArray, List.set_cons_zero, List.set_cons_succ]
              refine wpAnyH_take (i := 7) (oi := { dst := some 51, op := Op.move (Operand.tmp 50), type := 4, pos := "outright.go:35", after := #[{ on := 6, ground := Ground.data }, { on := 2, ground := Ground.chain }], guard := none }) (v := ?_) rfl (by kernel_rfl) (by kernel_rfl) (by kernel_rfl) (fun _ _ _ h => h) (Or.inl ⟨by rfl, ?_⟩) (by assumption) ?_
              rotate_left
              · (intro w hSw; (try dsimp only at hSw); go_simp; first | done | with_reducible rfl)
              try simp only [Act.put, List.setIfInBounds_toArray, List.set_cons_zero, List.set_cons_succ]
              refine wpAnyH_take (i := 8) (oi := { dst := some 52, op := Op.move (Operand.tmp 9), type := 4, pos := "outright.go:35", after := #[{ on := 7, ground := Ground.guard }], guard := some (7, false) }) (v := ?_) rfl (by kernel_rfl) (by kernel_rfl) (by kernel_rfl) (fun _ _ _ h => h) (Or.inl ⟨by rfl, ?_⟩) (by assumption) ?_
              rotate_left
              · (intro w hSw; (try dsimp only at hSw); go_simp; first | done | with_reducible rfl)
              try simp only [Act.put, List.setIfInBounds_toArray, List.set_cons_zero, List.set_cons_succ]
              refine wpAnyH_take (i := 9) (oi := { dst := some 53, op := Op.unOp UnOp.not 4 (Operand.tmp 52), type := 4, pos := "outright.go:35", after := #[{ on := 8, ground := Ground.data }, { on := 7, ground := Ground.guard }], guard := some (7, false) }) (v := ?_) rfl (by kernel_rfl) (by kernel_rfl) (by kernel_rfl) (fun _ _ _ h => h) (Or.inl ⟨by rfl, ?_⟩) (by assumption) ?_
              rotate_left
              · (intro w hSw; (try dsimp only at hSw); go_simp; first | done | with_reducible rfl)
              try simp only [Act.put, List.setIfInBounds_toArray, List.set_cons_zero, List.set_cons_succ]
              refine wpAnyH_take (i := 10) (oi := { dst := some 54, op := Op.pick (Operand.tmp 51) (Operand.const (Value.bool true)) (Operand.tmp 53), type := 4, pos := "outright.go:35", after := #[{ on := 7, ground := Ground.data }, { on := 9, ground := Ground.data }], guard := none }) (v := ?_) rfl (by kernel_rfl) (by kernel_rfl) (by kernel_rfl) (fun _ _ _ h => h) (Or.inl ⟨by rfl, ?_⟩) (by assumption) ?_
              rotate_left
              · (intro w hSw; (try dsimp only at hSw); go_simp; first | done | with_reducible rfl)
              try simp only [Act.put, List.setIfInBounds_toArray, List.set_cons_zero, List.set_cons_succ]
              refine wpAnyH_take (i := 11) (oi := { dst := some 55, op := Op.move (Operand.tmp 54), type := 4, pos := "outright.go:35", after := #[{ on := 10, ground := Ground.data }, { on := 7, ground := Ground.chain }], guard := none }) (v := ?_) rfl (by kernel_rfl) (by kernel_rfl) (by kernel_rfl) (fun _ _ _ h => h) (Or.inl ⟨by rfl, ?_⟩) (by assumption) ?_
              rotate_left
              · (intro w hSw; (try dsimp only at hSw); go_simp; first | done | with_reducible rfl)
              try simp only [Act.put, List.setIfInBounds_toArray, List.set_cons_zero, List.set_cons_succ]
              refine wpAnyH_take (i := 12) (oi := { dst := some 56, op := Op.move (Operand.tmp 8), type := 3, pos := "outright.go:35", after := #[{ on := 11, ground := Ground.guard }], guard := some (11, false) }) (v := ?_) rfl (by kernel_rfl) (by kernel_rfl) (by kernel_rfl) (fun _ _ _ h => h) (Or.inl ⟨by rfl, ?_⟩) (by assumption) ?_
              rotate_left
              · (intro w hSw; (try dsimp only at hSw); go_simp; first | done | with_reducible rfl)
              try simp only [Act.put, List.setIfInBounds_toArray, List.set_cons_zero, List.set_cons_succ]
              refine wpAnyH_take (i := 13) (oi := { dst := some 57, op := Op.move (Operand.tmp 4), type := 3, pos := "outright.go:35", after := #[{ on := 11, ground := Ground.guard }], guard := some (11, false) }) (v := ?_) rfl (by kernel_rfl) (by kernel_rfl) (by kernel_rfl) (fun _ _ _ h => h) (Or.inl ⟨by rfl, ?_⟩) (by assumption) ?_
              rotate_left
              · (intro w hSw; (try dsimp only at hSw); go_simp; first | done | with_reducible rfl)
              try simp only [Act.put, List.setIfInBounds_toArray, List.set_cons_zero, List.set_cons_succ]
              refine wpAnyH_take (i := 14) (oi := { dst := some 58, op := Op.binOp BinOp.neq 3 (Operand.tmp 56) (Operand.tmp 57) 3, type := 4, pos := "outright.go:35", after := #[{ on := 12, ground := Ground.data }, { on := 13, ground := Ground.data }, { on := 11, ground := Ground.guard }], guard := some (11, false) }) (v := ?_) rfl (by kernel_rfl) (by kernel_rfl) (by kernel_rfl) (fun _ _ _ h => h) (Or.inl ⟨by rfl, ?_⟩) (by assumption) ?_
              rotate_left
              · (intro w hSw; (try dsimp only at hSw); go_simp; first | done | with_reducible rfl)
              try simp only [Act.put, List.setIfInBounds_toArray, List.set_cons_zero, List.set_cons_succ]
              refine wpAnyH_take (i := 15) (oi := { dst := some 59, op := Op.pick (Operand.tmp 55) (Operand.const (Value.bool true)) (Operand.tmp 58), type := 4, pos := "outright.go:35", after := #[{ on := 11, ground := Ground.data }, { on := 14, ground := Ground.data }], guard := none }) (v := ?_) rfl (by kernel_rfl) (by kernel_rfl) (by kernel_rfl) (fun _ _ _ h => h) (Or.inl ⟨by rfl, ?_⟩) (by assumption) ?_
              rotate_left
              · (intro w hSw; (try dsimp only at hSw); go_simp; first | done | with_reducible rfl)
              try simp only [Act.put, List.setIfInBounds_toArray, List.set_cons_zero, List.set_cons_succ]
              refine wpAnyH_take (i := 16) (oi := { dst := some 60, op := Op.move (Operand.tmp 59), type := 4, pos := "outright.go:35", after := #[{ on := 15, ground := Ground.data }, { on := 11, ground := Ground.chain }], guard := none }) (v := ?_) rfl (by kernel_rfl) (by kernel_rfl) (by kernel_rfl) (fun _ _ _ h => h) (Or.inl ⟨by rfl, ?_⟩) (by assumption) ?_
              rotate_left
              · (intro w hSw; (try dsimp only at hSw); go_simp; first | done | with_reducible rfl)
              try simp only [Act.put, List.setIfInBounds_toArray, List.set_cons_zero, List.set_cons_succ]
              refine wpAnyH_take (i := 17) (oi := { dst := some 61, op := Op.load 23 (Operand.tmp 1), type := 23, pos := "outright.go:35", after := #[{ on := 16, ground := Ground.guard }], guard := some (16, false) }) (v := ?_) rfl (by kernel_rfl) (by kernel_rfl) (by kernel_rfl) (fun _ _ _ h => h) (Or.inl ⟨by rfl, ?_⟩) (by assumption) ?_
              rotate_left
              · (intro w hSw; (try dsimp only at hSw); go_simp; first | done | with_reducible rfl)
              try simp only [Act.put, List.setIfInBounds_toArray, List.set_cons_zero, List.set_cons_succ]
              refine wpAnyH_take (i := 18) (oi := { dst := some 62, op := Op.move (Operand.tmp 5), type := 3, pos := "outright.go:35", after := #[{ on := 16, ground := Ground.guard }], guard := some (16, false) }) (v := ?_) rfl (by kernel_rfl) (by kernel_rfl) (by kernel_rfl) (fun _ _ _ h => h) (Or.inl ⟨by rfl, ?_⟩) (by assumption) ?_
              rotate_left
              · (intro w hSw; (try dsimp only at hSw); go_simp; first | done | with_reducible rfl)
              try simp only [Act.put, List.setIfInBounds_toArray, List.set_cons_zero, List.set_cons_succ]
              refine wpAnyH_ready (rs := [19]) (by kernel_rfl) (by simp) ?_
              refine AllReadyH.cons (o := { dst := some 63, op := Op.call { callee := Callee.value (Operand.func 25), args := #[Operand.tmp 61, Operand.tmp 62], argTypes := #[23, 3] }, type := 4, pos := "outright.go:35", after := #[{ on := 17, ground := Ground.data }, { on := 18, ground := Ground.data }, { on := 16, ground := Ground.chain }, { on := 16, ground := Ground.guard }], guard := some (16, false) }) rfl (fun K hK => ?_) AllReadyH.nil
              go_simp
              refine (has_at l h s 0 _ HC.out ks).mono ?_
              rintro e w7 ⟨rfl, hb7⟩
              have hb7 : Below w6.heap.size w6 w7 := ⟨hb7.os, hb7.tape, hb7.output, hb7.size, hb7.block⟩
              have O7 := Lib.hid (O6.out.keep hb7)
              have gl := (O6.out.own.lt g rfl).2
              go_wp2_with fail
              refine hK.out _ _ ?_ (fun hHeld19 => ?_)
              · (obtain ⟨q0, q1, q2⟩ := hHeld; exact ⟨(hb7.cell (p := ⟨w.heap.size, 0, none⟩) (by first | (simp; done) | (simp; omega))).trans q0, (hb7.cell (p := ⟨w.heap.size, 1, none⟩) (by first | (simp; done) | (simp; omega))).trans q1, (hb7.cell (p := ⟨w.heap.size, 2, none⟩) (by first | (simp; done) | (simp; omega))).trans q2⟩)
              clear hK K hHeld
              have hHeld := hHeld19
              clear hHeld19
              try simp only [Act.put, List.setIfInBounds_toArray, List.set_cons_zero, List.set_cons_succ]
              refine wpAnyH_take (i := 20) (oi := { dst := some 64, op := Op.unOp UnOp.not 4 (Operand.tmp 63), type := 4, pos := "outright.go:35", after := #[{ on := 19, ground := Ground.data }, { on := 16, ground := Ground.guard }], guard := some (16, false) }) (v := ?_) rfl (by kernel_rfl) (by kernel_rfl) (by kernel_rfl) (fun _ _ _ h => h) (Or.inl ⟨by rfl, ?_⟩) (by assumption) ?_
              rotate_left
              · (intro w hSw; (try dsimp only at hSw); go_simp; first | done | with_reducible rfl)
              try simp only [Act.put, List.setIfInBounds_toArray, List.set_cons_zero, List.set_cons_succ]
              refine wpAnyH_take (i := 21) (oi := { dst := some 65, op := Op.pick (Operand.tmp 60) (Operand.const (Value.bool true)) (Operand.tmp 64), type := 4, pos := "outright.go:35", after := #[{ on := 16, ground := Ground.data }, { on := 20, ground := Ground.data }], guard := none }) (v := ?_) rfl (by kernel_rfl) (by kernel_rfl) (by kernel_rfl) (fun _ _ _ h => h) (Or.inl ⟨by rfl, ?_⟩) (by assumption) ?_
              rotate_left
              · (intro w hSw; (try dsimp only at hSw); go_simp; first | done | with_reducible rfl)
              try simp only [Act.put, List.setIfInBounds_toArray, List.set_cons_zero, List.set_cons_succ]
              refine wpAnyH_take (i := 22) (oi := { dst := some 66, op := Op.move (Operand.tmp 65), type := 4, pos := "outright.go:35", after := #[{ on := 21, ground := Ground.data }, { on := 19, ground := Ground.chain }], guard := none }) (v := ?_) rfl (by kernel_rfl) (by kernel_rfl) (by kernel_rfl) (fun _ _ _ h => h) (Or.inl ⟨by rfl, ?_⟩) (by assumption) ?_
              rotate_left
              · (intro w hSw; (try dsimp only at hSw); go_simp; first | done | with_reducible rfl)
              try simp only [Act.put, List.setIfInBounds_toArray, List.set_cons_zero, List.set_cons_succ]
              refine wpAnyH_take (i := 23) (oi := { dst := some 67, op := Op.move (Operand.tmp 4), type := 3, pos := "outright.go:35", after := #[{ on := 22, ground := Ground.guard }], guard := some (22, false) }) (v := ?_) rfl (by kernel_rfl) (by kernel_rfl) (by kernel_rfl) (fun _ _ _ h => h) (Or.inl ⟨by rfl, ?_⟩) (by assumption) ?_
              rotate_left
              · (intro w hSw; (try dsimp only at hSw); go_simp; first | done | with_reducible rfl)
              try simp only [Act.put, List.setIfInBounds_toArray, List.set_cons_zero, List.set_cons_succ]
              refine wpAnyH_take (i := 24) (oi := { dst := some 68, op := Op.binOp BinOp.gtr 3 (Operand.tmp 67) (Operand.const (Value.int IntKind.i64 0)) 3, type := 4, pos := "outright.go:35", after := #[{ on := 23, ground := Ground.data }, { on := 22, ground := Ground.guard }], guard := some (22, false) }) (v := ?_) rfl (by kernel_rfl) (by kernel_rfl) (by kernel_rfl) (fun _ _ _ h => h) (Or.inl ⟨by rfl, ?_⟩) (by assumption) ?_
              rotate_left
              · (intro w hSw; (try dsimp only at hSw); go_simp; first | done | with_reducible rfl)
              try simp only [Act.put, List.setIfInBounds_toArray, List.set_cons_zero, List.set_cons_succ]
              refine wpAnyH_take (i := 25) (oi := { dst := some 69, op := Op.move (Operand.tmp 68), type := 4, pos := "outright.go:35", after := #[{ on := 24, ground := Ground.data }, { on := 22, ground := Ground.chain }, { on := 22, ground := Ground.guard }], guard := some (22, false) }) (v := ?_) rfl (by kernel_rfl) (by kernel_rfl) (by kernel_rfl) (fun _ _ _ h => h) (Or.inl ⟨by rfl, ?_⟩) (by assumption) ?_
              rotate_left
              · (intro w hSw; (try dsimp only at hSw); go_simp; first | done | with_reducible rfl)
              try simp only [Act.put, List.setIfInBounds_toArray, List.set_cons_zero, List.set_cons_succ]
              refine wpAnyH_take (i := 26) (oi := { dst := some 70, op := Op.move (Operand.tmp 5), type := 3, pos := "outright.go:35", after := #[{ on := 25, ground := Ground.guard }], guard := some (25, true) }) (v := undef) rfl (by kernel_rfl) (by kernel_rfl) (by kernel_rfl) (fun _ _ _ h => h) (Or.inr ⟨by rfl, rfl⟩) (by assumption) ?_
              try simp only [Act.put, List.setIfInBounds_toArray, List.set_cons_zero, List.set_cons_succ]
              refine wpAnyH_take (i := 27) (oi := { dst := some 71, op := Op.move (Operand.tmp 3), type := 48, pos := "outright.go:35", after := #[{ on := 25, ground := Ground.guard }], guard := some (25, true) }) (v := undef) rfl (by kernel_rfl) (by kernel_rfl) (by kernel_rfl) (fun _ _ _ h => h) (Or.inr ⟨by rfl, rfl⟩) (by assumption) ?_
              try simp only [Act.put, List.setIfInBounds_toArray, List.set_cons_zero, List.set_cons_succ]
              refine wpAnyH_take (i := 28) (oi := { dst := some 72, op := Op.move (Operand.tmp 4), type := 3, pos := "outright.go:35", after := #[{ on := 25, ground := Ground.guard }], guard := some (25, true) }) (v := undef) rfl (by kernel_rfl) (by kernel_rfl) (by kernel_rfl) (fun _ _ _ h => h) (Or.inr ⟨by rfl, rfl⟩) (by assumption) ?_
              try simp only [Act.put, List.setIfInBounds_toArray, List.set_cons_zero, List.set_cons_succ]
              refine wpAnyH_take (i := 29) (oi := { dst := some 73, op := Op.binOp BinOp.sub 3 (Operand.tmp 72) (Operand.const (Value.int IntKind.i64 1)) 3, type := 3, pos := "outright.go:35", after := #[{ on := 28, ground := Ground.data }, { on := 25, ground := Ground.guard }], guard := some (25, true) }) (v := undef) rfl (by kernel_rfl) (by kernel_rfl) (by kernel_rfl) (fun _ _ _ h => h) (Or.inr ⟨by rfl, rfl⟩) (by assumption) ?_
              try simp only [Act.put, List.setIfInBounds_toArray, List.set_cons_zero, List.set_cons_succ]
              refine wpAnyH_take (i := 30) (oi := { dst := some 74, op := Op.indexAddr 48 (Operand.tmp 71) (Operand.tmp 73), type := 0, pos := "outright.go:35", after := #[{ on := 27, ground := Ground.data }, { on := 29, ground := Ground.data }, { on := 25, ground := Ground.guard }], guard := some (25, true) }) (v := undef) rfl (by kernel_rfl) (by kernel_rfl) (by kernel_rfl) (fun _ _ _ h => h) (Or.inr ⟨by rfl, rfl⟩) (by assumption) ?_
              try simp only [Act.put, List.setIfInBounds_toArray, List.set_cons_zero, List.set_cons_succ]
              refine wpAnyH_take (i := 31) (oi := { dst := some 75, op := Op.load 3 (Operand.tmp 74), type := 3, pos := "outright.go:35", after := #[{ on := 30, ground := Ground.data }, { on := 25, ground := Ground.guard }], guard := some (25, true) }) (v := undef) rfl (by kernel_rfl) (by kernel_rfl) (by kernel_rfl) (fun _ _ _ h => h) (Or.inr ⟨by rfl, rfl⟩) (by assumption) ?_
              try simp only [Act.put, List.setIfInBounds_toArray, List.set_cons_zero, List.set_cons_succ]
              refine wpAnyH_take (i := 32) (oi := { dst := some 76, op := Op.binOp BinOp.sub 3 (Operand.tmp 70) (Operand.tmp 75) 3, type := 3, pos := "outright.go:35", after := #[{ on := 26, ground := Ground.data }, { on := 31, ground := Ground.data }, { on := 25, ground := Ground.guard }], guard := some (25, true) }) (v := undef) rfl (by kernel_rfl) (by kernel_rfl) (by kernel_rfl) (fun _ _ _ h => h) (Or.inr ⟨by rfl, rfl⟩) (by assumption) ?_
              try simp only [Act.put, List.setIfInBounds_toArray, List.set_cons_zero, List.set_cons_succ]
              refine wpAnyH_take (i := 33) (oi := { dst := some 77, op := Op.fieldAddr 23 (Operand.tmp 1) 2, type := 0, pos := "outright.go:35", after := #[{ on := 25, ground := Ground.guard }], guard := some (25, true) }) (v := undef) rfl (by kernel_rfl) (by kernel_rfl) (by kernel_rfl) (fun _ _ _ h => h) (Or.inr ⟨by rfl, rfl⟩) (by assumption) ?_
              try simp only [Act.put, List.setIfInBounds_toArray, List.set_cons_zero, List.set_cons_succ]
              refine wpAnyH_take (i := 34) (oi := { dst := some 78, op := Op.load 3 (Operand.tmp 77), type := 3, pos := "outright.go:35", after := #[{ on := 33, ground := Ground.data }, { on := 25, ground := Ground.guard }], guard := some (25, true) }) (v := undef) rfl (by kernel_rfl) (by kernel_rfl) (by kernel_rfl) (fun _ _ _ h => h) (Or.inr ⟨by rfl, rfl⟩) (by assumption) ?_
              try simp only [Act.put, List.setIfInBounds_toArray, List.set_cons_zero, List.set_cons_succ]
              refine wpAnyH_take (i := 35) (oi := { dst := some 79, op := Op.binOp BinOp.neq 3 (Operand.tmp 76) (Operand.tmp 78) 3, type := 4, pos := "outright.go:35", after := #[{ on := 32, ground := Ground.data }, { on := 34, ground := Ground.data }, { on := 25, ground := Ground.guard }], guard := some (25, true) }) (v := undef) rfl (by kernel_rfl) (by kernel_rfl) (by kernel_rfl) (fun _ _ _ h => h) (Or.inr ⟨by rfl, rfl⟩) (by assumption) ?_
              try simp only [Act.put, List.setIfInBounds_toArray, List.set_cons_zero, List.set_cons_succ]
              refine wpAnyH_take (i := 36) (oi := { dst := some 80, op := Op.pick (Operand.tmp 69) (Operand.tmp 79) (Operand.const (Value.bool false)), type := 4, pos := "outright.go:35", after := #[{ on := 25, ground := Ground.data }, { on := 35, ground := Ground.data }, { on := 22, ground := Ground.guard }], guard := some (22, false) }) (v := ?_) rfl (by kernel_rfl) (by kernel_rfl) (by kernel_rfl) (fun _ _ _ h => h) (Or.inl ⟨by rfl, ?_⟩) (by assumption) ?_
              rotate_left
              · (intro w hSw; (try dsimp only at hSw); go_simp; first | done | with_reducible rfl)
              try simp only [Act.put, List.setIfInBounds_toArray, List.set_cons_zero, List.set_cons_succ]
              refine wpAnyH_take (i := 37) (oi := { dst := some 81, op := Op.pick (Operand.tmp 66) (Operand.const (Value.bool true)) (Operand.tmp 80), type := 4, pos := "outright.go:35", after := #[{ on := 22, ground := Ground.data }, { on := 36, ground := Ground.data }], guard := none }) (v := ?_) rfl (by kernel_rfl) (by kernel_rfl) (by kernel_rfl) (fun _ _ _ h => h) (Or.inl ⟨by rfl, ?_⟩) (by assumption) ?_
              rotate_left
              · (intro w hSw; (try dsimp only at hSw); go_simp; first | done | with_reducible rfl)
              try simp only [Act.put, List.setIfInBounds_toArray, List.set_cons_zero, List.set_cons_succ]
              refine wpAnyH_done (by kernel_rfl) ?_ _
              clear hHeld
              go_wp2
              go_roundg (N - 0)
              case measure => exact KG.out
              case rel => exact ⟨1, rfl, ⟨by omega, by omega⟩, O7⟩
            · obtain ⟨j, hj⟩ : ∃ j, k = j + 1 := ⟨k - 1, by omega⟩
              have kp : (0 : Int) < k := by omega
              have kp0 : 0 < k := by omega
              have kp1 : ¬ k = 0 := by omega
              have ji : 1 ≤ k := by omega
              have ji' : (1 : Int) ≤ k := by omega
              have js : (k : Int) - 1 < siz l h s := by omega
              have jw : IntKind.i64.wrap ((k : Int) - 1) = (k : Int) - 1 := IntWalk.i64_in _ (by omega)
              have jt : ((k : Int) - 1).toNat = j := by omega
              have jb : (0 : Int) ≤ (k : Int) - 1 ∧ (k : Int) - 1 < N := by omega
              have cj : w6.cell? ⟨g, j, none⟩ = some (.int .i64 (nthV l h s j)) := by
                rw [O6.out.own.cellAt j (by omega)]
                simp [numsL_get l h s j (by rw [← numsL_length, hN]; omega)]
              have st : IntKind.i64.wrap (nthV l h s k - nthV l h s j) = s := by
                have e := nthV_step l h s j (by by_cases c : s < 0; exact Or.inr c; exact Or.inl (magA_pos (by omega)))
                rw [← hj] at e
                rw [e]
                exact IntWalk.i64_in _ (by omega)
              clear hj kz
              refine wp_region_held_drew (S := (fun w' => w'.cell? ⟨w.heap.size, 0, none⟩ = some (.int .i64 l) ∧ w'.cell? ⟨w.heap.size, 1, none⟩ = some (.int .i64 h) ∧ w'.cell? ⟨w.heap.size, 2, none⟩ = some (.int .i64 s) ∧ w'.cell? ⟨g, j, none⟩ = some (.int .i64 (nthV l h s j)))) (by kernel_rfl) ?_ (fun hHeld => ?_)
              · first | exact hHeld | exact ⟨x0, x1, x2⟩ | exact ⟨x0, x1, x2, cj⟩ | (simp [go_sem, *]; done)
              refine wpAnyH_take (i := 0) (oi := { dst := some 44, op := Op.move (Operand.tmp 7), type := 24, pos := "outright.go:35", after := #[], guard := none }) (v := ?_) rfl (by kernel_rfl) (by kernel_rfl) (by kernel_rfl) (fun _ _ _ h => h) (Or.inl ⟨by rfl, ?_⟩) (by assumption) ?_
              rotate_left
              · (intro w hSw; (try dsimp only at hSw); go_simp; first | done | with_reducible rfl)
              try simp only [Act.put, List.setIfInBounds_toArray, List.set_cons_zero, List.set_cons_succ]
              refine wpAnyH_take (i := 1) (oi := { dst := some 45, op := Op.binOp BinOp.neq 24 (Operand.tmp 44) (Operand.const (Value.int IntKind.i64 0)) 24, type := 4, pos := "outright.go:35", after := #[{ on := 0, ground := Ground.data }], guard := none }) (v := ?_) rfl (by kernel_rfl) (by kernel_rfl) (by kernel_rfl) (fun _ _ _ h => h) (Or.inl ⟨by rfl, ?_⟩) (by assumption) ?_
              rotate_left
              · (intro w hSw; (try dsimp only at hSw); go_simp; first | done | with_reducible rfl)
              try simp only [Act.put, List.setIfInBounds_toArray, List.set_cons_zero, List.set_cons_succ]
              refine wpAnyH_take (i := 2) (oi := { dst := some 46, op := Op.move (Operand.tmp 45), type := 4, pos := "outright.go:35", after := #[{ on := 1, ground := Ground.data }], guard := none }) (v := ?_) rfl (by kernel_rfl) (by kernel_rfl) (by kernel_rfl) (fun _ _ _ h => h) (Or.inl ⟨by rfl, ?_⟩) (by assumption) ?_
              rotate_left
              · (intro w hSw; (try dsimp only at hSw); go_simp; first | done | with_reducible rfl)
              try simp only [Act.put, List.setIfInBounds_toArray, List.set_cons_zero, List.set_cons_succ]
              refine wpAnyH_take (i := 3) (oi := { dst := some 47, op := Op.move (Operand.tmp 6), type := 3, pos := "outright.go:35", after := #[{ on := 2, ground := Ground.guard }], guard := some (2, false) }) (v := ?_) rfl (by kernel_rfl) (by kernel_rfl) (by kernel_rfl) (fun _ _ _ h => h) (Or.inl ⟨by rfl, ?_⟩) (by assumption) ?_
              rotate_left
              · (intro w hSw; (try dsimp only at hSw); go_simp; first | done | with_reducible rfl)
              try simp only [Act.put, List.setIfInBounds_toArray, List.set_cons_zero, List.set_cons_succ]
              refine wpAnyH_take (i := 4) (oi := { dst := some 48, op := Op.move (Operand.tmp 5), type := 3, pos := "outright.go:35", after := #[{ on := 2, ground := Ground.guard }], guard := some (2, false) }) (v := ?_) rfl (by kernel_rfl) (by kernel_rfl) (by kernel_rfl) (fun _ _ _ h => h) (Or.inl ⟨by rfl, ?_⟩) (by assumption) ?_
              rotate_left
              · (intro w hSw; (try dsimp only at hSw); go_simp; first | done | with_reducible rfl)
              try simp only [Act.put, List.setIfInBounds_toArray, List.set_cons_zero, List.set_cons_succ]
              refine wpAnyH_take (i := 5) (oi := { dst := some 49, op := Op.binOp BinOp.neq 3 (Operand.tmp 47) (Operand.tmp 48) 3, type := 4, pos := "outright.go:35", after := #[{ on := 3, ground := Ground.data }, { on := 4, ground := Ground.data }, { on := 2, ground := Ground.guard }], guard := some (2, false) }) (v := ?_) rfl (by kernel_rfl) (by kernel_rfl) (by kernel_rfl) (fun _ _ _ h => h) (Or.inl ⟨by rfl, ?_⟩) (by assumption) ?_
              rotate_left
              · (intro w hSw; (try dsimp only at hSw); go_simp; first | done | with_reducible rfl)
              try simp only [Act.put, List.setIfInBounds_toArray, List.set_cons_zero, List.set_cons_succ]
              refine wpAnyH_take (i := 6) (oi := { dst := some 50, op := Op.pick (Operand.tmp 46) (Operand.const (Value.bool true)) (Operand.tmp 49), type := 4, pos := "outright.go:35", after := #[{ on := 2, ground := Ground.data }, { on := 5, ground := Ground.data }], guard := none }) (v := ?_) rfl (by kernel_rfl) (by kernel_rfl) (by kernel_rfl) (fun _ _ _ h => h) (Or.inl ⟨by rfl, ?_⟩) (by assumption) ?_
              rotate_left
              · (intro w hSw; (try dsimp only at hSw); go_simp; first | done | with_reducible rfl)
              try simp only [Act.put, List.setIfInBounds_toArray, List.set_cons_zero, List.set_cons_succ]
              refine wpAnyH_take (i := 7) (oi := { dst := some 51, op := Op.move (Operand.tmp 50), type := 4, pos := "outright.go:35", after := #[{ on := 6, ground := Ground.data }, { on := 2, ground := Ground.chain }], guard := none }) (v := ?_) rfl (by kernel_rfl) (by kernel_rfl) (by kernel_rfl) (fun _ _ _ h => h) (Or.inl ⟨by rfl, ?_⟩) (by assumption) ?_
              rotate_left
              · (intro w hSw; (try dsimp only at hSw); go_simp; first | done | with_reducible rfl)
              try simp only [Act.put, List.setIfInBounds_toArray, List.set_cons_zero, List.set_cons_succ]
              refine wpAnyH_take (i := 8) (oi := { dst := some 52, op := Op.move (Operand.tmp 9), type := 4, pos := "outright.go:35", after := #[{ on := 7, ground := Ground.guard }], guard := some (7, false) }) (v := ?_) rfl (by kernel_rfl) (by kernel_rfl) (by kernel_rfl) (fun _ _ _ h => h) (Or.inl ⟨by rfl, ?_⟩) (by assumption) ?_
              rotate_left
              · (intro w hSw; (try dsimp only at hSw); go_simp; first | done | with_reducible rfl)
              try simp only [Act.put, List.setIfInBounds_toArray, List.set_cons_zero, List.set_cons_succ]
              refine wpAnyH_take (i := 9) (oi := { dst := some 53, op := Op.unOp UnOp.not 4 (Operand.tmp 52), type := 4, pos := "outright.go:35", after := #[{ on := 8, ground := Ground.data }, { on := 7, ground := Ground.guard }], guard := some (7, false) }) (v := ?_) rfl (by kernel_rfl) (by kernel_rfl) (by kernel_rfl) (fun _ _ _ h => h) (Or.inl ⟨by rfl, ?_⟩) (by assumption) ?_
              rotate_left
              · (intro w hSw; (try dsimp only at hSw); go_simp; first | done | with_reducible rfl)
              try simp only [Act.put, List.setIfInBounds_toArray, List.set_cons_zero, List.set_cons_succ]
              refine wpAnyH_take (i := 10) (oi := { dst := some 54, op := Op.pick (Operand.tmp 51) (Operand.const (Value.bool true)) (Operand.tmp 53), type := 4, pos := "outright.go:35", after := #[{ on := 7, ground := Ground.data }, { on := 9, ground := Ground.data }], guard := none }) (v := ?_) rfl (by kernel_rfl) (by kernel_rfl) (by kernel_rfl) (fun _ _ _ h => h) (Or.inl ⟨by rfl, ?_⟩) (by assumption) ?_
              rotate_left
              · (intro w hSw; (try dsimp only at hSw); go_simp; first | done | with_reducible rfl)
              try simp only [Act.put, List.setIfInBounds_toArray, List.set_cons_zero, List.set_cons_succ]
              refine wpAnyH_take (i := 11) (oi := { dst := some 55, op := Op.move (Operand.tmp 54), type := 4, pos := "outright.go:35", after := #[{ on := 10, ground := Ground.data }, { on := 7, ground := Ground.chain }], guard := none }) (v := ?_) rfl (by kernel_rfl) (by kernel_rfl) (by kernel_rfl) (fun _ _ _ h => h) (Or.inl ⟨by rfl, ?_⟩) (by assumption) ?_
              rotate_left
              · (intro w hSw; (try dsimp only at hSw); go_simp; first | done | with_reducible rfl)
              try simp only [Act.put, List.setIfInBounds_toArray, List.set_cons_zero, List.set_cons_succ]
              refine wpAnyH_take (i := 12) (oi := { dst := some 56, op := Op.move (Operand.tmp 8), type := 3, pos := "outright.go:35", after := #[{ on := 11, ground := Ground.guard }], guard := some (11, false) }) (v := ?_) rfl (by kernel_rfl) (by kernel_rfl) (by kernel_rfl) (fun _ _ _ h => h) (Or.inl ⟨by rfl, ?_⟩) (by assumption) ?_
              rotate_left
              · (intro w hSw; (try dsimp only at hSw); go_simp; first | done | with_reducible rfl)
              try simp only [Act.put, List.setIfInBounds_toArray, List.set_cons_zero, List.set_cons_succ]
              refine wpAnyH_take (i := 13) (oi := { dst := some 57, op := Op.move (Operand.tmp 4), type := 3, pos := "outright.go:35", after := #[{ on := 11, ground := Ground.guard }], guard := some (11, false) }) (v := ?_) rfl (by kernel_rfl) (by kernel_rfl) (by kernel_rfl) (fun _ _ _ h => h) (Or.inl ⟨by rfl, ?_⟩) (by assumption) ?_
              rotate_left
              · (intro w hSw; (try dsimp only at hSw); go_simp; first | done | with_reducible rfl)
              try simp only [Act.put, List.setIfInBounds_toArray, List.set_cons_zero, List.set_cons_succ]
              refine wpAnyH_take (i := 14) (oi := { dst := some 58, op := Op.binOp BinOp.neq 3 (Operand.tmp 56) (Operand.tmp 57) 3, type := 4, pos := "outright.go:35", after := #[{ on := 12, ground := Ground.data }, { on := 13, ground := Ground.data }, { on := 11, ground := Ground.guard }], guard := some (11, false) }) (v := ?_) rfl (by kernel_rfl) (by kernel_rfl) (by kernel_rfl) (fun _ _ _ h => h) (Or.inl ⟨by rfl, ?_⟩) (by assumption) ?_
              rotate_left
              · (intro w hSw; (try dsimp only at hSw); go_simp; first | done | with_reducible rfl)
              try simp only [Act.put, List.setIfInBounds_toArray, List.set_cons_zero, List.set_cons_succ]
              refine wpAnyH_take (i := 15) (oi := { dst := some 59, op := Op.pick (Operand.tmp 55) (Operand.const (Value.bool true)) (Operand.tmp 58), type := 4, pos := "outright.go:35", after := #[{ on := 11, ground := Ground.data }, { on := 14, ground := Ground.data }], guard := none }) (v := ?_) rfl (by kernel_rfl) (by kernel_rfl) (by kernel_rfl) (fun _ _ _ h => h) (Or.inl ⟨by rfl, ?_⟩) (by assumption) ?_
              rotate_left
              · (intro w hSw; (try dsimp only at hSw); go_simp; first | done | with_reducible rfl)
              try simp only [Act.put, List.setIfInBounds_toArray, List.set_cons_zero, List.set_cons_succ]
              refine wpAnyH_take (i := 16) (oi := { dst := some 60, op := Op.move (Operand.tmp 59), type := 4, pos := "outright.go:35", after := #[{ on := 15, ground := Ground.data }, { on := 11, ground := Ground.chain }], guard := none }) (v := ?_) rfl (by kernel_rfl) (by kernel_rfl) (by kernel_rfl) (fun _ _ _ h => h) (Or.inl ⟨by rfl, ?_⟩) (by assumption) ?_
              rotate_left
              · (intro w hSw; (try dsimp only at hSw); go_simp; first | done | with_reducible rfl)
              try simp only [Act.put, List.setIfInBounds_toArray, List.set_cons_zero, List.set_cons_succ]
              refine wpAnyH_take (i := 17) (oi := { dst := some 61, op := Op.load 23 (Operand.tmp 1), type := 23, pos := "outright.go:35", after := #[{ on := 16, ground := Ground.guard }], guard := some (16, false) }) (v := ?_) rfl (by kernel_rfl) (by kernel_rfl) (by kernel_rfl) (fun _ _ _ h => h) (Or.inl ⟨by rfl, ?_⟩) (by assumption) ?_
              rotate_left
              · (intro w hSw; (try dsimp only at hSw); go_simp; first | done | with_reducible rfl)
              try simp only [Act.put, List.setIfInBounds_toArray, List.set_cons_zero, List.set_cons_succ]
              refine wpAnyH_take (i := 18) (oi := { dst := some 62, op := Op.move (Operand.tmp 5), type := 3, pos := "outright.go:35", after := #[{ on := 16, ground := Ground.guard }], guard := some (16, false) }) (v := ?_) rfl (by kernel_rfl) (by kernel_rfl) (by kernel_rfl) (fun _ _ _ h => h) (Or.inl ⟨by rfl, ?_⟩) (by assumption) ?_
              rotate_left
              · (intro w hSw; (try dsimp only at hSw); go_simp; first | done | with_reducible rfl)
              try simp only [Act.put, List.setIfInBounds_toArray, List.set_cons_zero, List.set_cons_succ]
              refine wpAnyH_ready (rs := [19]) (by kernel_rfl) (by simp) ?_
              refine AllReadyH.cons (o := { dst := some 63, op := Op.call { callee := Callee.value (Operand.func 25), args := #[Operand.tmp 61, Operand.tmp 62], argTypes := #[23, 3] }, type := 4, pos := "outright.go:35", after := #[{ on := 17, ground := Ground.data }, { on := 18, ground := Ground.data }, { on := 16, ground := Ground.chain }, { on := 16, ground := Ground.guard }], guard := some (16, false) }) rfl (fun K hK => ?_) AllReadyH.nil
              go_simp
              refine (has_at l h s k _ HC.out ks).mono ?_
              rintro e w7 ⟨rfl, hb7⟩
              have hb7 : Below w6.heap.size w6 w7 := ⟨hb7.os, hb7.tape, hb7.output, hb7.size, hb7.block⟩
              have O7 := Lib.hid (O6.out.keep hb7)
              have gl := (O6.out.own.lt g rfl).2
              go_wp2_with fail
              refine hK.out _ _ ?_ (fun hHeld19 => ?_)
              · (obtain ⟨q0, q1, q2, q3⟩ := hHeld; exact ⟨(hb7.cell (p := ⟨w.heap.size, 0, none⟩) (by first | (simp; done) | (simp; omega))).trans q0, (hb7.cell (p := ⟨w.heap.size, 1, none⟩) (by first | (simp; done) | (simp; omega))).trans q1, (hb7.cell (p := ⟨w.heap.size, 2, none⟩) (by first | (simp; done) | (simp; omega))).trans q2, (hb7.cell (p := ⟨g, j, none⟩) (by first | (simp; done) | (simp; omega))).trans q3⟩)
              clear hK K hHeld
              have hHeld := hHeld19
              clear hHeld19
              try simp only [Act.put, List.setIfInBounds_toArray, List.set_cons_zero, List.set_cons_succ]
              refine wpAnyH_take (i := 20) (oi := { dst := some 64, op := Op.unOp UnOp.not 4 (Operand.tmp 63), type := 4, pos := "outright.go:35", after := #[{ on := 19, ground := Ground.data }, { on := 16, ground := Ground.guard }], guard := some (16, false) }) (v := ?_) rfl (by kernel_rfl) (by kernel_rfl) (by kernel_rfl) (fun _ _ _ h => h) (Or.inl ⟨by rfl, ?_⟩) (by assumption) ?_
              rotate_left
              · (intro w hSw; (try dsimp only at hSw); go_simp; first | done | with_reducible rfl)
              try simp only [Act.put, List.setIfInBounds_toArray, List.set_cons_zero, List.set_cons_succ]
              refine wpAnyH_take (i := 21) (oi := { dst := some 65, op := Op.pick (Operand.tmp 60) (Operand.const (Value.bool true)) (Operand.tmp 64), type := 4, pos := "outright.go:35", after := #[{ on := 16, ground := Ground.data }, { on := 20, ground := Ground.data }], guard := none }) (v := ?_) rfl (by kernel_rfl) (by kernel_rfl) (by kernel_rfl) (fun _ _ _ h => h) (Or.inl ⟨by rfl, ?_⟩) (by assumption) ?_
              rotate_left
              · (intro w hSw; (try dsimp only at hSw); go_simp; first | done | with_reducible rfl)
              try simp only [Act.put, List.setIfInBounds_toArray, List.set_cons_zero, List.set_cons_succ]
              refine wpAnyH_take (i := 22) (oi := { dst := some 66, op := Op.move (Operand.tmp 65), type := 4, pos := "outright.go:35", after := #[{ on := 21, ground := Ground.data }, { on := 19, ground := Ground.chain }], guard := none }) (v := ?_) rfl (by kernel_rfl) (by kernel_rfl) (by kernel_rfl) (fun _ _ _ h => h) (Or.inl ⟨by rfl, ?_⟩) (by assumption) ?_
              rotate_left
              · (intro w hSw; (try dsimp only at hSw); go_simp; first | done | with_reducible rfl)
              try simp only [Act.put, List.setIfInBounds_toArray, List.set_cons_zero, List.set_cons_succ]
              refine wpAnyH_take (i := 23) (oi := { dst := some 67, op := Op.move (Operand.tmp 4), type := 3, pos := "outright.go:35", after := #[{ on := 22, ground := Ground.guard }], guard := some (22, false) }) (v := ?_) rfl (by kernel_rfl) (by kernel_rfl) (by kernel_rfl) (fun _ _ _ h => h) (Or.inl ⟨by rfl, ?_⟩) (by assumption) ?_
              rotate_left
              · (intro w hSw; (try dsimp only at hSw); go_simp; first | done | with_reducible rfl)
              try simp only [Act.put, List.setIfInBounds_toArray, List.set_cons_zero, List.set_cons_succ]
              refine wpAnyH_take (i := 24) (oi := { dst := some 68, op := Op.binOp BinOp.gtr 3 (Operand.tmp 67) (Operand.const (Value.int IntKind.i64 0)) 3, type := 4, pos := "outright.go:35", after := #[{ on := 23, ground := Ground.data }, { on := 22, ground := Ground.guard }], guard := some (22, false) }) (v := ?_) rfl (by kernel_rfl) (by kernel_rfl) (by kernel_rfl) (fun _ _ _ h => h) (Or.inl ⟨by rfl, ?_⟩) (by assumption) ?_
              rotate_left
              · (intro w hSw; (try dsimp only at hSw); go_simp; first | done | with_reducible rfl)
              try simp only [Act.put, List.setIfInBounds_toArray, List.set_cons_zero, List.set_cons_succ]
              refine wpAnyH_take (i := 25) (oi := { dst := some 69, op := Op.move (Operand.tmp 68), type := 4, pos := "outright.go:35", after := #[{ on := 24, ground := Ground.data }, { on := 22, ground := Ground.chain }, { on := 22, ground := Ground.guard }], guard := some (22, false) }) (v := ?_) rfl (by kernel_rfl) (by kernel_rfl) (by kernel_rfl) (fun _ _ _ h => h) (Or.inl ⟨by rfl, ?_⟩) (by assumption) ?_
              rotate_left
              · (intro w hSw; (try dsimp only at hSw); go_simp; first | done | with_reducible rfl)
              try simp only [Act.put, List.setIfInBounds_toArray, List.set_cons_zero, List.set_cons_succ]
              refine wpAnyH_take (i := 26) (oi := { dst := some 70, op := Op.move (Operand.tmp 5), type := 3, pos := "outright.go:35", after := #[{ on := 25, ground := Ground.guard }], guard := some (25, true) }) (v := ?_) rfl (by kernel_rfl) (by kernel_rfl) (by kernel_rfl) (fun _ _ _ h => h) (Or.inl ⟨by rfl, ?_⟩) (by assumption) ?_
              rotate_left
              · (intro w hSw; (try dsimp only at hSw); go_simp; first | done | with_reducible rfl)
              try simp only [Act.put, List.setIfInBounds_toArray, List.set_cons_zero, List.set_cons_succ]
              refine wpAnyH_take (i := 27) (oi := { dst := some 71, op := Op.move (Operand.tmp 3), type := 48, pos := "outright.go:35", after := #[{ on := 25, ground := Ground.guard }], guard := some (25, true) }) (v := ?_) rfl (by kernel_rfl) (by kernel_rfl) (by kernel_rfl) (fun _ _ _ h => h) (Or.inl ⟨by rfl, ?_⟩) (by assumption) ?_
              rotate_left
              · (intro w hSw; (try dsimp only at hSw); go_simp; first | done | with_reducible rfl)
              try simp only [Act.put, List.setIfInBounds_toArray, List.set_cons_zero, List.set_cons_succ]
              refine wpAnyH_take (i := 28) (oi := { dst := some 72, op := Op.move (Operand.tmp 4), type := 3, pos := "outright.go:35", after := #[{ on := 25, ground := Ground.guard }], guard := some (25, true) }) (v := ?_) rfl (by kernel_rfl) (by kernel_rfl) (by kernel_rfl) (fun _ _ _ h => h) (Or.inl ⟨by rfl, ?_⟩) (by assumption) ?_
              rotate_left
              · (intro w hSw; (try dsimp only at hSw); go_simp; first | done | with_reducible rfl)
              try simp only [Act.put, List.setIfInBounds_toArray, List.set_cons_zero, List.set_cons_succ]
              refine wpAnyH_take (i := 29) (oi := { dst := some 73, op := Op.binOp BinOp.sub 3 (Operand.tmp 72) (Operand.const (Value.int IntKind.i64 1)) 3, type := 3, pos := "outright.go:35", after := #[{ on := 28, ground := Ground.data }, { on := 25, ground := Ground.guard }], guard := some (25, true) }) (v := ?_) rfl (by kernel_rfl) (by kernel_rfl) (by kernel_rfl) (fun _ _ _ h => h) (Or.inl ⟨by rfl, ?_⟩) (by assumption) ?_
              rotate_left
              · (intro w hSw; (try dsimp only at hSw); go_simp; first | done | with_reducible rfl)
              try simp only [Act.put, List.setIfInBounds_toArray, List.set_cons_zero, List.set_cons_succ]
              refine wpAnyH_take (i := 30) (oi := { dst := some 74, op := Op.indexAddr 48 (Operand.tmp 71) (Operand.tmp 73), type := 0, pos := "outright.go:35", after := #[{ on := 27, ground := Ground.data }, { on := 29, ground := Ground.data }, { on := 25, ground := Ground.guard }], guard := some (25, true) }) (v := ?_) rfl (by kernel_rfl) (by kernel_rfl) (by kernel_rfl) (fun _ _ _ h => h) (Or.inl ⟨by rfl, ?_⟩) (by assumption) ?_
              rotate_left
              · (intro w hSw; (try dsimp only at hSw); go_simp; first | done | with_reducible rfl)
              try simp only [Act.put, List.setIfInBounds_toArray, List.set_cons_zero, List.set_cons_succ]
              refine wpAnyH_take (i := 31) (oi := { dst := some 75, op := Op.load 3 (Operand.tmp 74), type := 3, pos := "outright.go:35", after := #[{ on := 30, ground := Ground.data }, { on := 25, ground := Ground.guard }], guard := some (25, true) }) (v := ?_) rfl (by kernel_rfl) (by kernel_rfl) (by kernel_rfl) (fun _ _ _ h => h) (Or.inl ⟨by rfl, ?_⟩) (by assumption) ?_
              rotate_left
              · (intro w hSw; (try dsimp only at hSw); go_simp; first | done | with_reducible rfl)
              try simp only [Act.put, List.setIfInBounds_toArray, List.set_cons_zero, List.set_cons_succ]
              refine wpAnyH_take (i := 32) (oi := { dst := some 76, op := Op.binOp BinOp.sub 3 (Operand.tmp 70) (Operand.tmp 75) 3, type := 3, pos := "outright.go:35", after := #[{ on := 26, ground := Ground.data }, { on := 31, ground := Ground.data }, { on := 25, ground := Ground.guard }], guard := some (25, true) }) (v := ?_) rfl (by kernel_rfl) (by kernel_rfl) (by kernel_rfl) (fun _ _ _ h => h) (Or.inl ⟨by rfl, ?_⟩) (by assumption) ?_
              rotate_left
              · (intro w hSw; (try dsimp only at hSw); go_simp; first | done | with_reducible rfl)
              try simp only [Act.put, List.setIfInBounds_toArray, List.set_cons_zero, List.set_cons_succ]
              refine wpAnyH_take (i := 33) (oi := { dst := some 77, op := Op.fieldAddr 23 (Operand.tmp 1) 2, type := 0, pos := "outright.go:35", after := #[{ on := 25, ground := Ground.guard }], guard := some (25, true) }) (v := ?_) rfl (by kernel_rfl) (by kernel_rfl) (by kernel_rfl) (fun _ _ _ h => h) (Or.inl ⟨by rfl, ?_⟩) (by assumption) ?_
              rotate_left
              · (intro w hSw; (try dsimp only at hSw); go_simp; first | done | with_reducible rfl)
              try simp only [Act.put, List.setIfInBounds_toArray, List.set_cons_zero, List.set_cons_succ]
              refine wpAnyH_take (i := 34) (oi := { dst := some 78, op := Op.load 3 (Operand.tmp 77), type := 3, pos := "outright.go:35", after := #[{ on := 33, ground := Ground.data }, { on := 25, ground := Ground.guard }], guard := some (25, true) }) (v := ?_) rfl (by kernel_rfl) (by kernel_rfl) (by kernel_rfl) (fun _ _ _ h => h) (Or.inl ⟨by rfl, ?_⟩) (by assumption) ?_
              rotate_left
              · (intro w hSw; (try dsimp only at hSw); go_simp; first | done | with_reducible rfl)
              try simp only [Act.put, List.setIfInBounds_toArray, List.set_cons_zero, List.set_cons_succ]
              refine wpAnyH_take (i := 35) (oi := { dst := some 79, op := Op.binOp BinOp.neq 3 (Operand.tmp 76) (Operand.tmp 78) 3, type := 4, pos := "outright.go:35", after := #[{ on := 32, ground := Ground.data }, { on := 34, ground := Ground.data }, { on := 25, ground := Ground.guard }], guard := some (25, true) }) (v := ?_) rfl (by kernel_rfl) (by kernel_rfl) (by kernel_rfl) (fun _ _ _ h => h) (Or.inl ⟨by rfl, ?_⟩) (by assumption) ?_
              rotate_left
              · (intro w hSw; (try dsimp only at hSw); go_simp; first | done | with_reducible rfl)
              try simp only [Act.put, List.setIfInBounds_toArray, List.set_cons_zero, List.set_cons_succ]
              refine wpAnyH_take (i := 36) (oi := { dst := some 80, op := Op.pick (Operand.tmp 69) (Operand.tmp 79) (Operand.const (Value.bool false)), type := 4, pos := "outright.go:35", after := #[{ on := 25, ground := Ground.data }, { on := 35, ground := Ground.data }, { on := 22, ground := Ground.guard }], guard := some (22, false) }) (v := ?_) rfl (by kernel_rfl) (by kernel_rfl) (by kernel_rfl) (fun _ _ _ h => h) (Or.inl ⟨by rfl, ?_⟩) (by assumption) ?_
              rotate_left
              · (intro w hSw; (try dsimp only at hSw); go_simp; first | done | with_reducible rfl)
              try simp only [Act.put, List.setIfInBounds_toArray, List.set_cons_zero, List.set_cons_succ]
              refine wpAnyH_take (i := 37) (oi := { dst := some 81, op := Op.pick (Operand.tmp 66) (Operand.const (Value.bool true)) (Operand.tmp 80), type := 4, pos := "outright.go:35", after := #[{ on := 22, ground := Ground.data }, { on := 36, ground := Ground.data }], guard := none }) (v := ?_) rfl (by kernel_rfl) (by kernel_rfl) (by kernel_rfl) (fun _ _ _ h => h) (Or.inl ⟨by rfl, ?_⟩) (by assumption) ?_
              rotate_left
              · (intro w hSw; (try dsimp only at hSw); go_simp; first | done | with_reducible rfl)
              try simp only [Act.put, List.setIfInBounds_toArray, List.set_cons_zero, List.set_cons_succ]
              refine wpAnyH_done (by kernel_rfl) ?_ _
              clear hHeld
              go_wp2
              go_roundg (N - k)
              case measure => exact KG.out
              case rel => exact ⟨k + 1, by go_num, ⟨by omega, by omega⟩, O7⟩
          · have hk' : ¬ ((k : Int) < siz l h s) := by have := LS.out; omega
            go_wp2_with fail
            go_meet
            exact O4
    case rest =>
      have O4 := hcut
      clear hcut O3
      have x0 := O4.out.a.c0
      have x1 := O4.out.a.c1
      have x2 := O4.out.a.c2
      have zs := O4.out.a.size
      go_wp2_with fail
      refine (nth_end l h s _ HC.out).mono ?_
      rintro e w5 ⟨rfl, hb5⟩
      have O5 := Lib.hid (O4.out.keep hb5)
      clear hb5 O4 x0 x1 x2 zs
      have x0 := O5.out.a.c0
      have x1 := O5.out.a.c1
      have x2 := O5.out.a.c2
      have zs := O5.out.a.size
      by_cases c : -1000000 ≤ s ∧ s ≤ 1000000
      · obtain ⟨c1, c2⟩ := c
        go_wp2_with fail
        refine (of_self l h s _ HC.out ⟨c1, c2⟩).mono ?_
        rintro e w6 ⟨rfl, hb6⟩
        have O6 := Lib.hid (O5.out.keep hb6)
        clear hb6 O5 x0 x1 x2 zs
        have x0 := O6.out.a.c0
        have x1 := O6.out.a.c1
        have x2 := O6.out.a.c2
        have zs := O6.out.a.size
        have hq := eq_range l h s l h s
        rw [reqB_self] at hq
        go_wp2_with fail
        refine (awake_any _).mono ?_
        rintro e w7 ⟨rfl, hb7⟩
        have W7 : Hid (Below w.heap.size w w7) := below_al (Lib.hid O6.out.below) hb7
        clear hb7 O6 x0 x1 x2 zs
        go_wp2
        go_ret
        exact ⟨rfl, W7.out⟩
      · by_cases c1 : s < -1000000
        · go_wp2_with fail
          refine (awake_any _).mono ?_
          rintro e w7 ⟨rfl, hb7⟩
          have W7 : Hid (Below w.heap.size w w7) := below_st (Lib.hid O5.out.below) hb7
          clear hb7 O5 x0 x1 x2 zs
          go_wp2
          go_ret
          exact ⟨rfl, W7.out⟩
        · have c2 : 1000000 < s := by omega
          go_wp2_with fail
          refine (awake_any _).mono ?_
          rintro e w7 ⟨rfl, hb7⟩
          have W7 : Hid (Below w.heap.size w w7) := below_st (Lib.hid O5.out.below) hb7
          clear hb7 O5 x0 x1 x2 zs
          go_wp2
          go_ret
          exact ⟨rfl, W7.out⟩
end Go.Proofs.Ytdifilndpilboaa
