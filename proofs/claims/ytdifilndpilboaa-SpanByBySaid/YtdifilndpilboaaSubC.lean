/-
  The program's without: the pieces of a range around another one that lies in it.
-/
import Derived.Test.YtdifilndpilboaaSubB
import Derived.WalkKit
import Derived.Deep.RegionWith
import Derived.Deep.DeepCutAuto
import Derived.Deep.LoopGhost
import Derived.Deep.CutBlock
import Derived.WalkSpells
import Derived.WalkLawsBesides
import Derived.BigQuiet
import Derived.Deep.QuietTactic
import Derived.Deep.RegionHeld3
import Derived.Deep.DrawnRows
import Derived.Lib.Hide
namespace Go.Proofs.Ytdifilndpilboaa
open Go.RowKit

/-- how many pieces lie between numbers that are t apart, of a range with the step m -/
def subK (t m : Int) : Nat := ((t - 1) / m).toNat
/-- a list with the first k pieces between behind it -/
def midN (l h m t : Int) (dn : Bool) (L : List R3) : Nat → List R3
  | 0 => L
  | k + 1 => addP (midN l h m t dn L k) (l + ((k : Int) + 1) * m) (h - t + ((k : Int) + 1) * m) t dn
/-- the pieces of a range around another one -/
def subL (l1 h1 m l h t : Int) (dn : Bool) : List R3 := addP (midN l h m t dn (addP [] l1 (l - m) m dn) (subK t m)) (h + m) h1 m dn
theorem midN_mono (l h m t : Int) (dn : Bool) (L : List R3) (k : Nat) : ∀ j, (midN l h m t dn L k).length ≤ (midN l h m t dn L (k + j)).length
  | 0 => Nat.le_refl _
  | j + 1 => Nat.le_trans (midN_mono l h m t dn L k j) (addP_le _ _ _ _ _).1
theorem sub_exit {l1 h1 m l h t : Int} {dn : Bool} {k : Nat} (hk : k = subK t m ∨ 1000 < (midN l h m t dn (addP [] l1 (l - m) m dn) k).length) (hle : k ≤ subK t m) :
    (1000 < (addP (midN l h m t dn (addP [] l1 (l - m) m dn) k) (h + m) h1 m dn).length ∧ 1000 < (subL l1 h1 m l h t dn).length) ∨ addP (midN l h m t dn (addP [] l1 (l - m) m dn) k) (h + m) h1 m dn = subL l1 h1 m l h t dn := by
  rcases hk with rfl | hk
  · exact Or.inr rfl
  · left
    have a1 := (addP_le (midN l h m t dn (addP [] l1 (l - m) m dn) k) (h + m) h1 m dn).1
    have a2 := (addP_le (midN l h m t dn (addP [] l1 (l - m) m dn) (subK t m)) (h + m) h1 m dn).1
    have a3 := midN_mono l h m t dn (addP [] l1 (l - m) m dn) k (subK t m - k)
    rw [show k + (subK t m - k) = subK t m by omega] at a3
    unfold subL
    omega
theorem subK_more {t m : Int} {k : Nat} (hm : 1 ≤ m) (hc : ((k : Int) + 1) * m < t) : k < subK t m := by
  have : (k : Int) + 1 ≤ (t - 1) / m := (Int.le_ediv_iff_mul_le (by omega)).2 (by omega)
  unfold subK; omega
theorem subK_end {t m : Int} {k : Nat} (hm : 1 ≤ m) (ht : 1 ≤ t) (hk : k ≤ subK t m) (hc : ¬ ((k : Int) + 1) * m < t) : k = subK t m := by
  have : (t - 1) / m < (k : Int) + 1 := Int.ediv_lt_of_lt_mul (by omega) (by omega)
  have h0 : 0 ≤ (t - 1) / m := Int.ediv_nonneg (by omega) (by omega)
  unfold subK at *; omega

/-- what a difference of ranges returns, for the list of its pieces -/
def SubRet (L : List R3) (w : World) : Ending → World → Prop := fun e w' => ∃ (v : Value) (er : Int), e = .returned (.tuple #[v, .int .i64 er]) ∧ Below w.heap.size w w' ∧
  ((1000 < L.length ∧ v = .slice none 0 0 ∧ er = 7) ∨ (L.length ≤ 1000 ∧ er = 0 ∧ w'.ownsRow w.heap.size 23 3 v L.length (cells3 L)))

/-- without's blocks: both progressions, and the list so far -/
structure WSt (w : World) (l1 h1 m : Int) (dn : Bool) (l h t : Int) (dn2 : Bool) (L : List R3) (wx : World) : Prop where
  a0 : wx.cell? ⟨w.heap.size, 0, none⟩ = some (.int .i64 l1)
  a1 : wx.cell? ⟨w.heap.size, 1, none⟩ = some (.int .i64 h1)
  a2 : wx.cell? ⟨w.heap.size, 2, none⟩ = some (.int .i64 m)
  a3 : wx.cell? ⟨w.heap.size, 3, none⟩ = some (.bool dn)
  c0 : wx.cell? ⟨w.heap.size + 1, 0, none⟩ = some (.int .i64 l)
  c1 : wx.cell? ⟨w.heap.size + 1, 1, none⟩ = some (.int .i64 h)
  c2 : wx.cell? ⟨w.heap.size + 1, 2, none⟩ = some (.int .i64 t)
  size : w.heap.size + 3 ≤ wx.heap.size
  below : Below w.heap.size w wx
  holds : HoldsL (w.heap.size + 3) (w.heap.size + 1 + 1) L wx
theorem WSt.step {w : World} {l1 h1 m : Int} {dn : Bool} {l h t : Int} {dn2 : Bool} {L L' : List R3} {wx wy : World} (s : WSt w l1 h1 m dn l h t dn2 L wx) (hL : HoldsL (w.heap.size + 3) (w.heap.size + 1 + 1) L' wy) (ap : Apart (w.heap.size + 3) (w.heap.size + 1 + 1) wx wy) : WSt w l1 h1 m dn l h t dn2 L' wy :=
  ⟨(ap.cell (p := ⟨w.heap.size, 0, none⟩) (by simp) (by simp; omega)).trans s.a0, (ap.cell (p := ⟨w.heap.size, 1, none⟩) (by simp) (by simp; omega)).trans s.a1, (ap.cell (p := ⟨w.heap.size, 2, none⟩) (by simp) (by simp; omega)).trans s.a2, (ap.cell (p := ⟨w.heap.size, 3, none⟩) (by simp) (by simp; omega)).trans s.a3,
    (ap.cell (p := ⟨w.heap.size + 1, 0, none⟩) (by simp) (by simp)).trans s.c0, (ap.cell (p := ⟨w.heap.size + 1, 1, none⟩) (by simp) (by simp)).trans s.c1, (ap.cell (p := ⟨w.heap.size + 1, 2, none⟩) (by simp) (by simp)).trans s.c2,
    Nat.le_trans s.size ap.size, s.below.trans (ap.below (by omega) (by omega)), hL⟩
theorem WSt.cut {w : World} {l1 h1 m : Int} {dn : Bool} {l h t : Int} {dn2 : Bool} {L : List R3} {wx : World} (s : Hid (WSt w l1 h1 m dn l h t dn2 L wx)) (lo hi st : Int) (hn : L.length ≤ 5000) (s1 : -4000000000000 ≤ st) (s2 : st ≤ 4000000000000) :
    Calls Try.prog 150 #[.int .i64 lo, .int .i64 hi, .int .i64 st, .pointer (some ⟨w.heap.size + 1 + 1, 0, none⟩), .pointer (some ⟨w.heap.size, 0, none⟩)] wx fun e wy => e = .returned (.tuple #[]) ∧ Hid (WSt w l1 h1 m dn l h t dn2 (addP L lo hi st dn) wy) :=
  (cut_any lo hi st dn L (w.heap.size + 3) (w.heap.size + 1 + 1) w.heap.size wx s.out.holds s.out.a3 (by omega) (by omega) (by omega) s.out.size hn s1 s2).mono fun _ _ ⟨he, hL, ap⟩ => ⟨he, s.out.step hL ap⟩
theorem WSt.new {w : World} {l1 h1 m : Int} {dn : Bool} {l h t : Int} {dn2 : Bool} {ta tb tc : TypeId} : WSt w l1 h1 m dn l h t dn2 [] (((w.alloc (.cells #[.int .i64 l1, .int .i64 h1, .int .i64 m, .bool dn] ta)).alloc (.cells #[.int .i64 l, .int .i64 h, .int .i64 t, .bool dn2] tb)).alloc (.cells #[.slice none 0 0] tc)) := by
  constructor
  all_goals try (simp [go_sem]; done)
  · exact (((Below.refl _ _).alloc (Nat.le_refl _) _).alloc (by simp) _).alloc (by simp; omega) _
  · exact ⟨none, 0, by simp [go_sem], by simp [go_sem], World.ownsRow_nil _ _ _ _⟩

set_option maxRecDepth 100000 in
set_option maxHeartbeats 3200000 in
theorem without_any (l1 h1 m : Int) (dn : Bool) (l h t : Int) (dn2 : Bool) (w : World) (_a1 : -1000000 ≤ l1) (_a2 : l1 ≤ 1000000) (_a3 : -1000000 ≤ h1) (_a4 : h1 ≤ 1000000) (a5 : 1 ≤ m) (a6 : m ≤ 2000000) (c1 : -1000000 ≤ l) (c2 : l ≤ 1000000) (c3 : -1000000 ≤ h) (c4 : h ≤ 1000000) (c5 : 1 ≤ t) (c6 : t ≤ 2000000) :
    Calls Try.prog 120 #[.agg #[.int .i64 l1, .int .i64 h1, .int .i64 m, .bool dn], .agg #[.int .i64 l, .int .i64 h, .int .i64 t, .bool dn2]] w (SubRet (subL l1 h1 m l h t dn) w) := by
  have j1 : IntKind.i64.wrap (l - m) = l - m := IntWalk.i64_in _ (by omega)
  have j2 : IntKind.i64.wrap (h + m) = h + m := IntWalk.i64_in _ (by omega)
  have j3 : IntKind.i64.wrap (h - t) = h - t := IntWalk.i64_in _ (by omega)
  go_enter Try.func120, Try.ntmps120
  go_wp2_with fail
  refine (WSt.cut (l1 := l1) (h1 := h1) (m := m) (dn := dn) (l := l) (h := h) (t := t) (dn2 := dn2) (L := []) (Lib.hid WSt.new) _ _ _ (by simp) (by omega) (by omega)).mono ?_
  rintro e w1 ⟨rfl, S1⟩
  have x0 := S1.out.a0
  have y0 := S1.out.c0
  have x1 := S1.out.a1
  have y1 := S1.out.c1
  have x2 := S1.out.a2
  have y2 := S1.out.c2
  go_upto_block 0 with fail
  go_cut [8] (fun _ wx => ∃ k : Nat, ((k = subK t m ∨ 1000 < (midN l h m t dn (addP [] l1 (l - m) m dn) k).length) ∧ k ≤ subK t m ∧ (midN l h m t dn (addP [] l1 (l - m) m dn) k).length ≤ 1001) ∧ Hid (WSt w l1 h1 m dn l h t dn2 (midN l h m t dn (addP [] l1 (l - m) m dn) k) wx))
  case first =>
    go_wp2_with fail
    go_loopg [8] (subK t m + 1) (fun gh v8 wr => ∃ (k : Nat) (ah : Int), v8 = .int .i64 ah ∧ (Hid (ah = ((k : Int) + 1) * m) ∧ k ≤ subK t m ∧ subK t m - k < gh ∧ (midN l h m t dn (addP [] l1 (l - m) m dn) k).length ≤ 1001) ∧ Hid (WSt w l1 h1 m dn l h t dn2 (midN l h m t dn (addP [] l1 (l - m) m dn) k) wr))
    case atStart => exact ⟨0, m, rfl, ⟨Lib.hid (by simp), by omega, by omega, by have := (addP_le [] l1 (l - m) m dn).2; simp only [midN]; simp at this; omega⟩, S1⟩
    case round =>
      obtain ⟨k, ah, rfl, ⟨hah, k0, kg, kl⟩, S2⟩ := hrel
      have KG := Lib.hid kg
      have KL := Lib.hid kl
      have K0 := Lib.hid k0
      clear kg kl k0 x0 x1 x2 y0 y1 y2 S1
      have x0 := S2.out.a0
      have y0 := S2.out.c0
      have x1 := S2.out.a1
      have y1 := S2.out.c1
      have x2 := S2.out.a2
      have y2 := S2.out.c2
      obtain ⟨ao, cap, p0, p1, own⟩ := S2.out.holds
      clear own p1
      generalize hn : (midN l h m t dn (addP [] l1 (l - m) m dn) k).length = n at p0
      have HN := Lib.hid hn
      clear hn
      by_cases g1 : ah < t
      · by_cases g2 : (n : Int) ≤ 1000
        · have am : 1 ≤ ah := by
            have h1 : 0 ≤ (k : Int) * m := Int.mul_nonneg (by omega) (by omega)
            have := hah.out
            rw [Int.add_mul] at this
            omega
          have j4 : IntKind.i64.wrap (l + ah) = l + ah := IntWalk.i64_in _ (by omega)
          have j5 : IntKind.i64.wrap (h - t + ah) = h - t + ah := IntWalk.i64_in _ (by omega)
          have j6 : IntKind.i64.wrap (ah + m) = ah + m := IntWalk.i64_in _ (by omega)
          go_wp2_with fail
          refine (WSt.cut S2 _ _ _ (by have := KL.out; omega) (by omega) (by omega)).mono ?_
          rintro e w3 ⟨rfl, S3⟩
          clear p0 x0 x1 x2 y0 y1 y2
          have x0 := S3.out.a0
          have y0 := S3.out.c0
          have x1 := S3.out.a1
          have y1 := S3.out.c1
          have x2 := S3.out.a2
          have y2 := S3.out.c2
          go_wp2_with fail
          have kk := subK_more a5 (hah.out ▸ g1)
          go_roundg (subK t m - k)
          case measure => exact KG.out
          case rel =>
            refine ⟨k + 1, ah + m, rfl, ⟨Lib.hid ?_, kk, by omega, ?_⟩, ?_⟩
            · rw [hah.out]; simp only [Int.add_mul]; push_cast; simp only [Int.add_mul]; omega
            · have := (addP_le (midN l h m t dn (addP [] l1 (l - m) m dn) k) (l + ((k : Int) + 1) * m) (h - t + ((k : Int) + 1) * m) t dn).2
              have e2 := HN.out
              simp only [midN]
              omega
            · have e := S3.out
              rw [hah.out] at e
              exact e
        · go_wp2_with fail
          go_meet
          exact ⟨k, ⟨Or.inr (by have := HN.out; omega), K0.out, KL.out⟩, S2⟩
      · go_wp2_with fail
        go_meet
        exact ⟨k, ⟨Or.inl (subK_end a5 c5 K0.out (by rw [← hah.out]; omega)), K0.out, KL.out⟩, S2⟩
  case rest =>
    obtain ⟨k, ⟨hk, k0, kl⟩, S2⟩ := hcut
    have EX := Lib.hid (sub_exit (h1 := h1) hk k0)
    clear hk k0 x0 x1 x2 y0 y1 y2 S1
    have x0 := S2.out.a0
    have y0 := S2.out.c0
    have x1 := S2.out.a1
    have y1 := S2.out.c1
    have x2 := S2.out.a2
    have y2 := S2.out.c2
    go_wp2_with fail
    refine (WSt.cut S2 _ _ _ (by omega) (by omega) (by omega)).mono ?_
    rintro e w3 ⟨rfl, S3⟩
    clear x0 x1 x2 y0 y1 y2 kl
    generalize hL : addP (midN l h m t dn (addP [] l1 (l - m) m dn) k) (h + m) h1 m dn = LL at S3 EX
    obtain ⟨ao, cap, p0, p1, own⟩ := S3.out.holds
    have OWN := Lib.hid (owns_base own (show w.heap.size ≤ w.heap.size + 3 by omega))
    clear own p1 hL S2
    by_cases g2 : (1000 : Int) < LL.length
    · have hh : 1000 < (subL l1 h1 m l h t dn).length := by
        rcases EX.out with e | e
        · exact e.2
        · rw [← e]; omega
      have HH := Lib.hid hh
      clear hh
      go_wp2_with fail
      exact bodyPost_ret (v := .tuple #[.slice none 0 0, .int .i64 7]) (by simp [results, Try.results120, go_sem, *]) rfl ⟨_, _, rfl, S3.out.below, Or.inl ⟨HH.out, rfl, rfl⟩⟩
    · have hh : LL = subL l1 h1 m l h t dn := by
        rcases EX.out with e | e
        · omega
        · exact e
      have HH := Lib.hid hh
      clear hh EX
      have G2 := Lib.hid g2
      go_wp2_with fail
      refine bodyPost_ret (v := .tuple #[.slice ao LL.length cap, .int .i64 0]) (by simp [results, Try.results120, go_sem, *]) rfl ⟨_, _, rfl, S3.out.below, Or.inr ⟨?_, rfl, ?_⟩⟩
      · have := G2.out; rw [← HH.out]; omega
      · rw [← HH.out]; exact OWN.out
end Go.Proofs.Ytdifilndpilboaa
