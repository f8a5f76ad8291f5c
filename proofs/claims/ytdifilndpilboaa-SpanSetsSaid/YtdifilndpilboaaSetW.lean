/-
  The walk of the law SpanSets: it returns true for all ranges, and no block that was there before has changed.
-/
import Derived.Test.YtdifilndpilboaaSortA
import Derived.Test.YtdifilndpilboaaSubD
import Derived.WalkKit
import Derived.Maps.AppendAt
import Derived.Deep.RegionWith
import Derived.Deep.DeepCutAuto
import Derived.Deep.LoopGhost
import Derived.Deep.CutBlock
import Derived.WalkSpells
import Derived.WalkLawsBesides
import Derived.BigQuiet
import Derived.Deep.QuietTactic
import Derived.Deep.RegionHeld3
import Derived.Deep.DrawnRows
import Derived.Lib.Hide
namespace Go.Proofs.Ytdifilndpilboaa
open Go.RowKit

/-- the law's boxes: both ranges -/
structure TSt (w : World) (l1 h1 s1 l2 h2 s2 : Int) (w' : World) : Prop where
  below : Below w.heap.size w w'
  a : B3 w.heap.size (.int .i64 l1) (.int .i64 h1) (.int .i64 s1) w'
  b : B3 (w.heap.size + 1) (.int .i64 l2) (.int .i64 h2) (.int .i64 s2) w'
theorem TSt.keep {w : World} {l1 h1 s1 l2 h2 s2 : Int} {wa wb : World} (t : TSt w l1 h1 s1 l2 h2 s2 wa) (hb : Below wa.heap.size wa wb) : TSt w l1 h1 s1 l2 h2 s2 wb :=
  ⟨t.below.trans (hb.mono t.below.size), t.a.keep hb, t.b.keep hb⟩
/-- .. and what they have in common, and the list of the others -/
structure USt (w : World) (l1 h1 s1 l2 h2 s2 : Int) (cb : Nat) (l h s : Int) (lv : Value) (L : List R3) (w' : World) : Prop where
  t : TSt w l1 h1 s1 l2 h2 s2 w'
  c : B3 cb (.int .i64 l) (.int .i64 h) (.int .i64 s) w'
  own : w'.ownsRow w.heap.size 23 3 lv L.length (cells3 L)
theorem USt.keep {w : World} {l1 h1 s1 l2 h2 s2 : Int} {cb : Nat} {l h s : Int} {lv : Value} {L : List R3} {wa wb : World} (u : USt w l1 h1 s1 l2 h2 s2 cb l h s lv L wa) (hb : Below wa.heap.size wa wb) : USt w l1 h1 s1 l2 h2 s2 cb l h s lv L wb :=
  ⟨u.t.keep hb, u.c.keep hb, owns_below u.own hb⟩
/-- two slices do not lie in one block -/
def Dj (u v : Value) : Prop := ∀ g, u.ownBlock = some g → v.ownBlock ≠ some g
theorem Dj.or {u v : Value} (d : Dj u v) : u.ownBlock = none ∨ u.ownBlock ≠ v.ownBlock := by
  cases hu : u.ownBlock with
  | none => exact Or.inl rfl
  | some g => exact Or.inr fun e => d g hu e.symm
theorem Dj.symm {u v : Value} (d : Dj u v) : Dj v u := fun g hv hu => d g hu hv
/-- the two slices that the first loop fills: the first k numbers, apart by a test -/
structure L1St (wb : World) (xs : List Int) (p : Int → Bool) (k : Nat) (u v : Value) (wr : World) : Prop where
  below : Below wb.heap.size wb wr
  yes : wr.ownsRow wb.heap.size 3 1 u ((xs.take k).filter p).length (((xs.take k).filter p).map (Value.int .i64))
  no : wr.ownsRow wb.heap.size 3 1 v ((xs.take k).filter (fun n => !p n)).length (((xs.take k).filter (fun n => !p n)).map (Value.int .i64))
  dj : Dj u v
theorem L1St.start (wb : World) (xs : List Int) (p : Int → Bool) : L1St wb xs p 0 (.slice none 0 0) (.slice none 0 0) wb :=
  ⟨Below.refl _ _, World.ownsRow_nil _ _ _ _, World.ownsRow_nil _ _ _ _, fun g hg => by simp [Value.ownBlock] at hg⟩
theorem L1St.keep {wb : World} {xs : List Int} {p : Int → Bool} {k : Nat} {u v : Value} {wr wr' : World} (t : L1St wb xs p k u v wr) (hb : Below wr.heap.size wr wr') : L1St wb xs p k u v wr' :=
  ⟨t.below.trans (hb.mono t.below.size), owns_below t.yes hb, owns_below t.no hb, t.dj⟩
theorem dj_new {u v v' : Value} {base : Nat} {e : TypeId} {n : Nat} {xs : List Value} {w : World} {o : Obj} (d : Dj u v) (hu : w.ownsRow base e 1 u n xs) (hat : v'.ownBlock = v.ownBlock ∨ v'.ownBlock = some (w.alloc o).heap.size) : Dj u v' := by
  intro g hg
  rcases hat with e | e
  · rw [e]; exact d g hg
  · rw [e]
    have := (hu.lt g hg).2
    simp; omega
theorem L1St.addNo {wb : World} {xs : List Int} {p : Int → Bool} {k : Nat} {u v v' : Value} {w1 w2 : World} {x : Int} {o : Obj} (t : L1St wb xs p k u v w1) (hx : xs[k]? = some x) (hp : p x = false)
    (own : w2.ownsRow wb.heap.size 3 1 v' (((xs.take k).filter (fun n => !p n)).length + 1) (((xs.take k).filter (fun n => !p n)).map (Value.int .i64) ++ [.int .i64 x])) (grow : (w1.alloc o).grownBy w2 v.ownBlock)
    (hat : v'.ownBlock = v.ownBlock ∨ v'.ownBlock = some (w1.alloc o).heap.size) : L1St wb xs p (k + 1) u v' w2 := by
  have e1 : (xs.take (k + 1)).filter p = (xs.take k).filter p := by rw [filter_take_succ p xs k x hx, hp]; simp
  have e2 : (xs.take (k + 1)).filter (fun n => !p n) = (xs.take k).filter (fun n => !p n) ++ [x] := by rw [filter_take_succ _ xs k x hx, hp]; simp
  refine ⟨(t.below.alloc t.below.size _).grown grow (by have := t.below.size; simp; omega) (fun g hg => (t.no.lt g hg).1), ?_, ?_, dj_new t.dj t.yes hat⟩
  · rw [e1]; exact (t.yes.alloc o).kept grow t.dj.or
  · rw [e2, List.length_append, List.map_append]; exact own
theorem L1St.addYes {wb : World} {xs : List Int} {p : Int → Bool} {k : Nat} {u u' v : Value} {w1 w2 : World} {x : Int} {o : Obj} (t : L1St wb xs p k u v w1) (hx : xs[k]? = some x) (hp : p x = true)
    (own : w2.ownsRow wb.heap.size 3 1 u' (((xs.take k).filter p).length + 1) (((xs.take k).filter p).map (Value.int .i64) ++ [.int .i64 x])) (grow : (w1.alloc o).grownBy w2 u.ownBlock)
    (hat : u'.ownBlock = u.ownBlock ∨ u'.ownBlock = some (w1.alloc o).heap.size) : L1St wb xs p (k + 1) u' v w2 := by
  have e1 : (xs.take (k + 1)).filter p = (xs.take k).filter p ++ [x] := by rw [filter_take_succ p xs k x hx, hp]; simp
  have e2 : (xs.take (k + 1)).filter (fun n => !p n) = (xs.take k).filter (fun n => !p n) := by rw [filter_take_succ _ xs k x hx, hp]; simp
  refine ⟨(t.below.alloc t.below.size _).grown grow (by have := t.below.size; simp; omega) (fun g hg => (t.yes.lt g hg).1), ?_, ?_, (dj_new t.dj.symm t.no hat).symm⟩
  · rw [e1, List.length_append, List.map_append]; exact own
  · rw [e2]; exact (t.no.alloc o).kept grow t.dj.symm.or
/-- the slice that the second loop fills -/
structure L2St (wb : World) (L : List R3) (k : Nat) (u : Value) (wr : World) : Prop where
  below : Below wb.heap.size wb wr
  own : wr.ownsRow wb.heap.size 3 1 u (numsAll (L.take k)).length ((numsAll (L.take k)).map (Value.int .i64))
theorem L2St.start (wb : World) (L : List R3) : L2St wb L 0 (.slice none 0 0) wb := ⟨Below.refl _ _, World.ownsRow_nil _ _ _ _⟩
theorem L2St.keep {wb : World} {L : List R3} {k : Nat} {u : Value} {wr wr' : World} (t : L2St wb L k u wr) (hb : Below wr.heap.size wr wr') : L2St wb L k u wr' :=
  ⟨t.below.trans (hb.mono t.below.size), owns_below t.own hb⟩
theorem L2St.add {wb : World} {L : List R3} {k : Nat} {u u' : Value} {w1 w2 : World} {x : R3} {n : Nat} (t : L2St wb L k u w1) (hx : L[k]? = some x)
    (own : w2.ownsRow wb.heap.size 3 1 u' ((numsAll (L.take k)).length + n) ((numsAll (L.take k)).map (Value.int .i64) ++ (numsL x.1 x.2.1 x.2.2).map (Value.int .i64))) (hn : n = (numsL x.1 x.2.1 x.2.2).length) (grow : w1.grownBy w2 u.ownBlock) : L2St wb L (k + 1) u' w2 := by
  subst hn
  refine ⟨t.below.grown grow t.below.size (fun g hg => (t.own.lt g hg).1), ?_⟩
  rw [numsAll_succ L k x hx, List.length_append, List.map_append]; exact own

set_option maxRecDepth 100000 in
set_option maxHeartbeats 12800000 in
theorem spanSets_walk (l1 h1 s1 l2 h2 s2 : Int) (w : World) (hl1 : I64 l1) (hh1 : I64 h1) (hs1 : I64 s1) (hl2 : I64 l2) (hh2 : I64 h2) (hs2 : I64 s2) :
    Calls Try.prog 7 #[.agg #[.int .i64 l1, .int .i64 h1, .int .i64 s1], .agg #[.int .i64 l2, .int .i64 h2, .int .i64 s2]] w fun e w' => e = .returned (.bool true) ∧ Below w.heap.size w w' := by
  obtain ⟨i0, hi, hz0, hz1, hz2⟩ := info_parts Try.infoInt
  go_enter Try.func7, Try.ntmps7
  go_wp2_with fail
  refine (small_any _ _ _ _ hl1 hh1 hs1).mono ?_
  rintro e w1 ⟨rfl, hb1⟩
  have R1 := res22 hb1
  have T1 : Hid (TSt w l1 h1 s1 l2 h2 s2 w1) := Lib.hid ⟨R1.1, R1.2.1, R1.2.2⟩
  clear hb1 R1
  cases hq1 : smB l1 h1 s1
  · go_wp2_with fail
    refine (awake_any _).mono ?_
    rintro e w2 ⟨rfl, hb2⟩
    have W2 := (T1.out.keep hb2).below
    clear hb2
    go_wp2
    go_ret
    exact ⟨rfl, W2⟩
  · have x0 := T1.out.b.c0
    have x1 := T1.out.b.c1
    have x2 := T1.out.b.c2
    go_wp2_with fail
    refine (small_any _ _ _ _ hl2 hh2 hs2).mono ?_
    rintro e w2 ⟨rfl, hb2⟩
    have T2 := Lib.hid (T1.out.keep hb2)
    clear hb2 T1 x0 x1 x2
    cases hq2 : smB l2 h2 s2
    · go_wp2_with fail
      refine (awake_any _).mono ?_
      rintro e w3 ⟨rfl, hb3⟩
      have W3 := (T2.out.keep hb3).below
      clear hb3
      go_wp2
      go_ret
      exact ⟨rfl, W3⟩
    · have hc1 : chk l1 h1 s1 = 0 ∧ siz l1 h1 s1 ≤ 400 := by unfold smB at hq1; simpa using hq1
      have hc2 : chk l2 h2 s2 = 0 ∧ siz l2 h2 s2 ≤ 400 := by unfold smB at hq2; simpa using hq2
      have HA := Lib.hid hc1.1
      have HB := Lib.hid hc2.1
      have S4 := Lib.hid hc1.2
      have NA : Hid ((numsL l1 h1 s1).length ≤ 400) := Lib.hid (by rw [nums_len]; omega)
      clear hc1 hc2 hq1 hq2
      have x0 := T2.out.a.c0
      have x1 := T2.out.a.c1
      have x2 := T2.out.a.c2
      have y0 := T2.out.b.c0
      have y1 := T2.out.b.c1
      have y2 := T2.out.b.c2
      go_wp2_with fail
      refine (Intersect_dir _ _ _ _ _ _ _ HA HB).mono ?_
      rintro e w3 ⟨l, h, s, hF, rfl, hb3⟩
      have F := Lib.hid hF
      have HC := Lib.hid hF.1
      have T3 := Lib.hid ((T2.out.keep hb3).keep (below_new w3 (.cells #[.int .i64 l, .int .i64 h, .int .i64 s] 23)))
      have C3 := Lib.hid (B3.new (.int .i64 l) (.int .i64 h) (.int .i64 s) 23 w3)
      have zc := hb3.size
      have zt := T2.out.b.size
      clear hb3 T2 x0 x1 x2 y0 y1 y2 hF
      have x0 := T3.out.a.c0
      have x1 := T3.out.a.c1
      have x2 := T3.out.a.c2
      have y0 := T3.out.b.c0
      have y1 := T3.out.b.c1
      have y2 := T3.out.b.c2
      go_upto_region 4 with fail
      generalize w3.alloc (.cells #[.int .i64 l, .int .i64 h, .int .i64 s] 23) = w4 at *
      generalize w3.heap.size = cb at *
      go_wp2_with fail
      refine (Subtract_ok _ _ _ _ _ _ _ HA HB).mono ?_
      rintro e w5 ⟨l', h', s', F', v, er, rfl, hb5, hL⟩
      have AC := Lib.hid (sub_all HA.out HB.out F')
      generalize subAll l1 h1 s1 l' h' s' = L at hL AC
      have PM := Lib.hid (sub_perm HA.out AC.out)
      have NL : (numsAll L).length ≤ 400 := by
        rw [PM.out.length_eq]
        exact Nat.le_trans (List.length_filter_le _ _) NA.out
      have LL : L.length ≤ 400 := Nat.le_trans (acc_len (P := fun _ => True) AC.out.ok) NL
      rcases hL with ⟨big, _⟩ | ⟨_, rfl, own⟩
      · omega
      have U5 : Hid (USt w l1 h1 s1 l2 h2 s2 cb l h s v L w5) := Lib.hid ⟨T3.out.keep hb5, C3.out.keep hb5, owns_base (owns_below own (Below.refl _ _)) (by have := T3.out.below.size; omega)⟩
      clear hb5 own T3 C3 x0 x1 x2 y0 y1 y2 F' zc zt
      obtain ⟨ao, cap, rfl⟩ := owns_slice U5.out.own
      have NLh := Lib.hid NL
      have LLh := Lib.hid LL
      clear NL LL
      have x0 := U5.out.t.a.c0
      have x1 := U5.out.t.a.c1
      have x2 := U5.out.t.a.c2
      have y0 := U5.out.t.b.c0
      have y1 := U5.out.t.b.c1
      have y2 := U5.out.t.b.c2
      go_wp2_with fail
      refine (Within_ok _ _ _ _ _ _ _ HA HB).mono ?_
      rintro e w6 ⟨bw, hbw, rfl, hb6⟩
      have U6 := Lib.hid (U5.out.keep hb6)
      have BW := Lib.hid hbw
      clear hb6 hbw U5 x0 x1 x2 y0 y1 y2
      have x0 := U6.out.c.c0
      have x1 := U6.out.c.c1
      have x2 := U6.out.c.c2
      have bC := chk_bounds HC.out
      have lle : (L.length : Int) ≤ 400 := by have := LLh.out; omega
      go_wp2_with fail
      refine (check_ok l h s _ ⟨by omega, by omega⟩ ⟨by omega, by omega⟩ ⟨by omega, by omega⟩ HC).mono ?_
      rintro e w7 ⟨rfl, hb7⟩
      have U7 := Lib.hid (U6.out.keep hb7)
      clear hb7 U6 x0 x1 x2
      have x0 := U7.out.t.a.c0
      have x1 := U7.out.t.a.c1
      have x2 := U7.out.t.a.c2
      go_wp2_with fail
      refine (numbers_any _ _ _ _ _ HA (by have := S4.out; omega) (by omega)).mono ?_
      rintro e w8 ⟨nv, rfl, on, hb8⟩
      have U8 := Lib.hid (U7.out.keep hb8)
      clear hb8 U7 x0 x1 x2
      obtain ⟨an, cn, rfl⟩ := owns_slice on.out
      have GN := Lib.hid (nums_inter HA.out HB.out HC.out F.out.2.1 F.out.2.2)
      have GX : Hid (∀ k x, (numsL l1 h1 s1)[k]? = some x → I64 x) := Lib.hid (fun k x hx => by
        have hm := (nums_mem HA.out x).1 (List.mem_of_getElem? hx)
        have bA := chk_bounds HA.out
        exact ⟨by have := hm.1; omega, by have := hm.2.1; omega⟩)
      obtain ⟨xs, hxs⟩ : ∃ xs, numsL l1 h1 s1 = xs := ⟨_, rfl⟩
      have XS := Lib.hid hxs
      rw [hxs] at GN GX NA PM on
      rw [hxs]
      clear hxs
      generalize hp : (fun n => posB l2 h2 s2 n) = p at *
      have HP : Hid (∀ n, posB l2 h2 s2 n = p n) := Lib.hid (fun n => by rw [← hp])
      clear hp
      generalize hN : xs.length = N at *
      have HN := Lib.hid hN
      have NAo := NA.out
      clear hN
      go_upto_block 0 with fail
      go_cut [11, 12] (fun u v wx => Hid (L1St w8 xs p N u v wx))
      case first =>
        by_cases n0 : N = 0
        · subst n0
          go_wp2_with fail
          go_loopg [11, 12, 14, 68] 1 (fun gh u v _ v68 wr => v68 = .int .i64 0 ∧ 0 < gh ∧ Hid (L1St w8 xs p 0 u v wr))
          case atStart => exact ⟨rfl, by omega, Lib.hid (L1St.start _ _ _)⟩
          case round =>
            obtain ⟨rfl, h0, L1⟩ := hrel
            go_wp2_with fail
            go_meet
            exact L1
        · obtain ⟨g, rfl⟩ := owns_addr on.out n0
          go_wp2_with fail
          go_loopg [11, 12, 14, 68] (N + 1) (fun gh u v _ v68 wr => ∃ k : Nat, v68 = .int .i64 k ∧ (k ≤ N ∧ N - k < gh) ∧ Hid (L1St w8 xs p k u v wr))
          case atStart => exact ⟨0, rfl, ⟨by omega, by omega⟩, Lib.hid (L1St.start _ _ _)⟩
          case round =>
            obtain ⟨k, rfl, ⟨k0, kg⟩, L1⟩ := hrel
            have KG := Lib.hid kg
            clear kg
            by_cases hk : k < N
            · obtain ⟨x, hx⟩ : ∃ x, xs[k]? = some x := ⟨xs[k]'(by rw [HN.out]; exact hk), List.getElem?_eq_getElem _⟩
              have gl := (on.out.lt g rfl).2
              have cl : wr.cell? ⟨g, k, none⟩ = some (.int .i64 x) := by
                rw [L1.out.below.cell (p := ⟨g, k, none⟩) gl, on.out.cellAt k (by omega)]
                simp [hx]
              have HX := Lib.hid hx
              clear hx
              have U := Lib.hid (U8.out.keep L1.out.below)
              have y0 := U.out.t.b.c0
              have y1 := U.out.t.b.c1
              have y2 := U.out.t.b.c2
              have ya := U.out.t.b.size
              go_wp2_with fail
              refine (Has_any l2 h2 s2 x _ hl2 hh2 hs2 (GX.out _ _ HX.out)).mono ?_
              rintro e w9 ⟨rfl, hb9⟩
              have L9 := Lib.hid (L1.out.keep hb9)
              clear hb9 U y0 y1 y2 ya cl L1
              have sz := L9.out.below.size
              have jk : IntKind.i64.wrap ((k : Int) + 1) = (k : Int) + 1 := IntWalk.i64_in _ (by omega)
              rw [HP.out]
              have ln1 : ((xs.take k).filter p).length ≤ 400 := Nat.le_trans (filter_take_le _ _ _) (by rw [HN.out]; exact NAo)
              have ln2 : ((xs.take k).filter (fun n => !p n)).length ≤ 400 := Nat.le_trans (filter_take_le _ _ _) (by rw [HN.out]; exact NAo)
              cases hpx : p x
              · have HPX := Lib.hid hpx
                clear hpx
                go_wp2_with (first | (at_builtin; refine wpList_append_own_at _ rfl (.tmp 79) (.tmp 81) 48 rfl w8.heap.size 3 i0 (.int .i64 0) 1 8 Try.underlying48 hi hz0 hz1 hz2 rfl (by decide) _ _ _ rfl (L9.out.no.alloc _) ⟨w9.heap.size, 0, none⟩ 1 1 [.int .i64 x] rfl rfl (cell_one_new _ _ _) (by simp [Value.oneCell']) (by unfold maxLen; omega) (by omega) (by simp; omega) ?_))
                intro v' w10 own' grow' _ hat'
                have L10 := Lib.hid (L9.out.addNo HX.out HPX.out own' grow' (by simpa using hat'))
                clear own' grow' hat' L9
                go_wp2_with fail
                go_roundg (N - k)
                case measure => exact KG.out
                case rel => exact ⟨k + 1, by go_num, ⟨by omega, by omega⟩, L10⟩
              · have HPX := Lib.hid hpx
                clear hpx
                go_wp2_with (first | (at_builtin; refine wpList_append_own_at _ rfl (.tmp 75) (.tmp 77) 48 rfl w8.heap.size 3 i0 (.int .i64 0) 1 8 Try.underlying48 hi hz0 hz1 hz2 rfl (by decide) _ _ _ rfl (L9.out.yes.alloc _) ⟨w9.heap.size, 0, none⟩ 1 1 [.int .i64 x] rfl rfl (cell_one_new _ _ _) (by simp [Value.oneCell']) (by unfold maxLen; omega) (by omega) (by simp; omega) ?_))
                intro v' w10 own' grow' _ hat'
                have L10 := Lib.hid (L9.out.addYes HX.out HPX.out own' grow' (by simpa using hat'))
                clear own' grow' hat' L9
                go_wp2_with fail
                go_roundg (N - k)
                case measure => exact KG.out
                case rel => exact ⟨k + 1, by go_num, ⟨by omega, by omega⟩, L10⟩
            · obtain rfl : k = N := by omega
              go_wp2_with fail
              go_meet
              exact L1
      case rest =>
        obtain ⟨wm, rfl⟩ : ∃ wm : World, wm = wc := ⟨_, rfl⟩
        have L10 := hcut
        clear hcut on
        have U9 := Lib.hid (U8.out.keep L10.out.below)
        have xk : xs.take N = xs := by rw [List.take_of_length_le (by rw [HN.out]; exact Nat.le_refl _)]
        have YES := Lib.hid (xk ▸ L10.out.yes)
        have NO := Lib.hid (xk ▸ L10.out.no)
        have DJ := Lib.hid L10.out.dj
        have W89 := Lib.hid L10.out.below
        have C8 := Lib.hid U8.out.c
        have T8 := Lib.hid U8.out.t
        have PN : Hid ((numsAll L).Perm (xs.filter (fun n => !p n))) := Lib.hid (by
          have e : (fun n => !posB l2 h2 s2 n) = fun n => !p n := funext fun n => by rw [HP.out]
          rw [← e]; exact PM.out)
        have BN : Hid (bw = true ↔ (xs.filter (fun n => !p n)).length = 0) := Lib.hid (by
          rw [BW.out, List.length_eq_zero_iff, List.filter_eq_nil_iff]
          constructor
          · intro hall n hn
            have := (posB_iff HB.out).2 (hall n ((nums_mem HA.out n).1 (by rw [XS.out]; exact hn)))
            rw [← HP.out, this]; simp
          · intro hall n hn
            have := hall n (by rw [← XS.out]; exact (nums_mem HA.out n).2 hn)
            rw [← HP.out] at this
            exact (posB_iff HB.out).1 (by simpa using this))
        have ly : Hid ((xs.filter p).length ≤ 400) := Lib.hid (Nat.le_trans (List.length_filter_le _ _) (by rw [HN.out]; exact NAo))
        have lz : Hid ((xs.filter (fun n => !p n)).length ≤ 400) := Lib.hid (Nat.le_trans (List.length_filter_le _ _) (by rw [HN.out]; exact NAo))
        clear L10 xk PM U8 HP XS BW GX HN NAo NA
        generalize hys : xs.filter p = ys at YES GN ly
        generalize hzs : xs.filter (fun n => !p n) = zs at NO PN BN lz
        clear hys hzs
        generalize u11 = uy at *
        generalize u12 = uz at *
        have okL := Lib.hid AC.out.ok
        clear AC
        go_upto_block 2 with fail
        go_cut [15] (fun u wx => Hid (L2St wm L L.length u wx))
        case first =>
          by_cases n0 : L.length = 0
          · have nl : ¬ (0 : Int) < L.length := by omega
            have H0 := Lib.hid n0
            clear n0
            go_wp2_with fail
            go_loopg [15, 17, 86] 1 (fun gh u _ v86 wr => v86 = .int .i64 0 ∧ 0 < gh ∧ Hid (L2St wm L 0 u wr))
            case atStart => exact ⟨rfl, by omega, Lib.hid (L2St.start _ _)⟩
            case round =>
              obtain ⟨rfl, h0, L1⟩ := hrel
              go_wp2_with fail
              go_meet
              rw [H0.out]; exact L1
          · obtain ⟨g, rfl⟩ := owns_addr U9.out.own n0
            have LL := LLh.out
            go_wp2_with fail
            go_loopg [15, 17, 86] (L.length + 1) (fun gh u _ v86 wr => ∃ k : Nat, v86 = .int .i64 k ∧ (k ≤ L.length ∧ L.length - k < gh) ∧ Hid (L2St wm L k u wr))
            case atStart => exact ⟨0, rfl, ⟨by omega, by omega⟩, Lib.hid (L2St.start _ _)⟩
            case round =>
              obtain ⟨k, rfl, ⟨k0, kg⟩, L1⟩ := hrel
              have KG := Lib.hid kg
              clear kg
              by_cases hk : k < L.length
              · obtain ⟨x, hx⟩ : ∃ x, L[k]? = some x := ⟨L[k]'hk, List.getElem?_eq_getElem _⟩
                have U := Lib.hid (U9.out.keep L1.out.below)
                obtain ⟨z0, z1, z2⟩ := owns_at U.out.own k x hx
                have HX := Lib.hid hx
                have ok := okL.out x (List.mem_of_getElem? hx)
                have CX := Lib.hid ok.1
                have LX := Lib.hid ok.2
                have bX := chk_bounds ok.1
                have sx := (steps_a ok.1 ok.2).2.1
                have sx0 : (siz x.1 x.2.1 x.2.2 == 0) = false := by simp; omega
                have nt := numsAll_take_le L (k + 1)
                rw [numsAll_succ L k x hx, List.length_append] at nt
                have n4 := NLh.out
                have sl := nums_len x.1 x.2.1 x.2.2
                have s4 : Hid (siz x.1 x.2.1 x.2.2 ≤ 400) := Lib.hid (by omega)
                have n1 : Hid ((numsL x.1 x.2.1 x.2.2).length ≤ 400 ∧ (numsAll (L.take k)).length ≤ 400 ∧ 1 ≤ (numsL x.1 x.2.1 x.2.2).length) := Lib.hid (by omega)
                have gz := (U.out.own.lt g rfl).2
                clear hx ok nt n4 sl U
                go_wp2_with fail
                refine (check_ok x.1 x.2.1 x.2.2 _ ⟨by omega, by omega⟩ ⟨by omega, by omega⟩ ⟨by omega, by omega⟩ CX).mono ?_
                rintro e w9 ⟨rfl, hb9⟩
                have R9 := res1b hb9
                have L9 := Lib.hid (L1.out.keep R9.1)
                have X9 := Lib.hid R9.2
                clear hb9 R9 L1 z0 z1 z2 gz
                have z0 := X9.out.c0
                have z1 := X9.out.c1
                have z2 := X9.out.c2
                go_wp2_with fail
                refine (Size_any x.1 x.2.1 x.2.2 _ ⟨by omega, by omega⟩ ⟨by omega, by omega⟩ ⟨by omega, by omega⟩).mono ?_
                rintro e w10 ⟨rfl, hb10⟩
                have L10 := Lib.hid (L9.out.keep hb10)
                have X10 := Lib.hid (X9.out.keep hb10)
                clear hb10 L9 X9 z0 z1 z2
                have z0 := X10.out.c0
                have z1 := X10.out.c1
                have z2 := X10.out.c2
                go_wp2_with fail
                refine (numbers_any _ _ _ _ _ CX (by have := s4.out; omega) (by omega)).mono ?_
                rintro e w11 ⟨v', rfl, on', hb11⟩
                have L11 := Lib.hid (L10.out.keep hb11)
                clear hb11 L10 X10 z0 z1 z2
                obtain ⟨na1, na2, na3⟩ := n1.out
                obtain ⟨a', c', rfl⟩ := owns_slice on'.out
                obtain ⟨g', rfl⟩ := owns_addr on'.out (by omega)
                have sz := L11.out.below.size
                have jk : IntKind.i64.wrap ((k : Int) + 1) = (k : Int) + 1 := IntWalk.i64_in _ (by omega)
                go_wp2_with (first | (at_builtin; refine wpList_append_own _ rfl (.tmp 98) (.tmp 100) 48 rfl wm.heap.size 3 i0 (.int .i64 0) 1 8 Try.underlying48 hi hz0 hz1 hz2 rfl (by decide) _ _ _ rfl L11.out.own ⟨g', 0, none⟩ (numsL x.1 x.2.1 x.2.2).length c' ((numsL x.1 x.2.1 x.2.2).map (Value.int .i64)) rfl (by simp) (on'.out.cells rfl) (by intro u hu; simp at hu; obtain ⟨y, _, rfl⟩ := hu; rfl) (by unfold maxLen; omega) (by omega) sz ?_))
                intro u' w12 own' grow' _
                have L12 := Lib.hid (L11.out.add HX.out own' rfl grow')
                clear own' grow' L11 on'
                go_wp2_with fail
                go_roundg (L.length - k)
                case measure => exact KG.out
                case rel => exact ⟨k + 1, by go_num, ⟨by omega, by omega⟩, L12⟩
              · obtain rfl : k = L.length := by omega
                go_wp2_with fail
                go_meet
                exact L1
        case rest =>
          have L13 := hcut
          clear hcut
          have tk : L.take L.length = L := List.take_length
          have GOT := Lib.hid (tk ▸ L13.out.own)
          have W9 := Lib.hid L13.out.below
          clear L13 tk U9
          generalize u15 = ug at *
          have zn := NO.out.lt
          have YS := Lib.hid YES.out.lt
          have NO := Lib.hid (owns_below NO.out W9.out)
          have YES := Lib.hid (owns_below YES.out W9.out)
          have B8 := Lib.hid (W89.out.trans (W9.out.mono W89.out.size))
          have ng := NLh.out
          have ln := lz.out
          go_wp2_with fail
          refine (sort_any uz zs _ _ NO.out (by omega)).mono ?_
          rintro e w14 ⟨rfl, oz, gr⟩
          have YES := Lib.hid (YES.out.kept gr DJ.out.or)
          have dz : Dj ug uz := fun g hg e => by have := (GOT.out.lt g hg).1; have := (zn g e).2; omega
          have GOT := Lib.hid (GOT.out.kept gr dz.or)
          have B14 := Lib.hid (B8.out.grown gr B8.out.size (fun g hg => (zn g hg).1))
          have dy : Dj uy ug := fun g hg e => by have := (YS.out g hg).2; have := (GOT.out.lt g e).1; omega
          have sw := W89.out.size
          have gb : ∀ k, ug.ownBlock = some k → w8.heap.size ≤ k := fun k hk => by have := (GOT.out.lt k hk).1; omega
          clear gr B8 NO
          go_wp2_with fail
          refine (sort_any ug (numsAll L) _ _ GOT.out (by omega)).mono ?_
          rintro e w15 ⟨rfl, og, gr⟩
          have YES := Lib.hid (YES.out.kept gr dy.or)
          have oz := Lib.hid (oz.out.kept gr dz.symm.or)
          have B15 := Lib.hid (B14.out.grown gr B14.out.size gb)
          have C15 := Lib.hid (b3_under C8.out B15.out C8.out.size)
          have D15 := Lib.hid (T8.out.below.trans (B15.out.mono T8.out.below.size))
          clear gr B14 GOT C8 B15 zn dz dy gb
          have x0 := C15.out.c0
          have x1 := C15.out.c1
          have x2 := C15.out.c2
          have s5 : Hid (siz l h s ≤ 400) := Lib.hid (by have := nums_len l h s; rw [GN.out] at this; have := ly.out; omega)
          have e5 := srt_perm PN.out
          have l5 : (numsAll L).length = (srt zs).length := by rw [PN.out.length_eq, srt_length]
          have og := Lib.hid (show w15.ownsRow wm.heap.size 3 1 ug (srt zs).length ((srt zs).map (Value.int .i64)) by rw [← l5, ← e5]; exact og.out)
          obtain ⟨az, cz, rfl⟩ := owns_slice oz.out
          have ozs := Lib.hid (show w15.ownsRow w8.heap.size 3 1 (.slice az zs.length cz) (srt zs).length ((srt zs).map (Value.int .i64)) by rw [srt_length]; exact oz.out)
          clear e5 l5 oz PN
          go_wp2_with fail
          refine (numbers_any _ _ _ _ _ HC (by have := s5.out; omega) (by omega)).mono ?_
          rintro e w16 ⟨nv, rfl, on, hb16⟩
          have D16 := Lib.hid (D15.out.trans (hb16.mono D15.out.size))
          have YES := Lib.hid (owns_below YES.out hb16)
          have og := Lib.hid (owns_below og.out hb16)
          have ozs := Lib.hid (owns_below ozs.out hb16)
          have on := Lib.hid (show w16.ownsRow w15.heap.size 3 1 nv ys.length (ys.map (Value.int .i64)) by rw [← GN.out]; exact on.out)
          clear hb16 D15 C15 x0 x1 x2
          go_wp2_with fail
          refine (equalI_any _ _ _ _ ys _ on.out YES.out (by have := ly.out; omega)).mono ?_
          rintro e w17 ⟨rfl, hb17⟩
          have D17 := Lib.hid (D16.out.trans (hb17.mono D16.out.size))
          have og := Lib.hid (owns_below og.out hb17)
          have ozs := Lib.hid (owns_below ozs.out hb17)
          clear hb17 D16 on YES
          go_wp2_with fail
          refine (equalI_any _ _ _ _ (srt zs) _ og.out ozs.out (by rw [srt_length]; omega)).mono ?_
          rintro e w18 ⟨rfl, hb18⟩
          have D18 := Lib.hid (D17.out.trans (hb18.mono D17.out.size))
          clear hb18 D17 og ozs
          have bn := BN.out
          by_cases zl : zs.length = 0
          · have bt : bw = true := bn.2 zl
            subst bt
            have zl' : (zs.length : Int) = 0 := by omega
            have Z := Lib.hid zl
            clear zl bn
            go_wp2_with fail
            refine (awake_any _).mono ?_
            rintro e w19 ⟨rfl, hb19⟩
            have D19 := Lib.hid (D18.out.trans (hb19.mono D18.out.size))
            clear hb19
            go_wp2
            go_ret
            exact ⟨rfl, D19.out⟩
          · have bt : bw = false := by cases bw; rfl; exact absurd (bn.1 rfl) zl
            subst bt
            have zl' : ¬ (zs.length : Int) = 0 := by omega
            have zl2 : ((zs.length : Int) == 0) = false := by simpa using zl
            clear bn
            go_wp2_with fail
            refine (awake_any _).mono ?_
            rintro e w19 ⟨rfl, hb19⟩
            have D19 := Lib.hid (D18.out.trans (hb19.mono D18.out.size))
            clear hb19
            go_wp2
            go_ret
            exact ⟨rfl, D19.out⟩
end Go.Proofs.Ytdifilndpilboaa
