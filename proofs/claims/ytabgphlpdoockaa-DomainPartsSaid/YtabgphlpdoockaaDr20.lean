/-
  Part 20: DCB, DomP, RDN.
-/
import Derived.Test.YtabgphlpdoockaaDr2
import Derived.Test.YtabgphlpdoockaaDr4
import Derived.Test.YtabgphlpdoockaaDr6
import Derived.Test.YtabgphlpdoockaaDr11
import Derived.Test.YtabgphlpdoockaaDr13
import Derived.Test.YtabgphlpdoockaaDr14
import Derived.Test.YtabgphlpdoockaaDr18
import Derived.Test.YtabgphlpdoockaaDr19
import Derived.BigQuiet
import Derived.Deep.CutBlock
import Derived.Deep.DeepCutAuto
import Derived.Deep.DrawnRows
import Derived.Deep.LoopGhost
import Derived.Deep.QuietTactic
import Derived.Deep.RegionHeld3
import Derived.Deep.RegionWith
import Derived.Lib.Hide
import Derived.WalkKit
import Derived.WalkLawsBesides
import Derived.WalkSpells
namespace Go.Proofs.Ytabgphlpdoockaa
open Go.RowKit
/-- what the closure gives, in every world in which old memory lies as it lay -/
def GivesMoved (c0 c1 c2 : Nat) (w0 : World) (n : Nat) (R : Nat → R3 → Int → Prop) : Prop := ∀ i : Nat, i < n → ∀ w : World, Below w0.heap.size w0 w →
  Calls Try.prog 175 #[.int .i64 i, .pointer (some ⟨c0, 0, none⟩), .pointer (some ⟨c1, 0, none⟩), .pointer (some ⟨c2, 0, none⟩)] w fun e w' => ∃ (x0 x1 x2 er : Int), e = .returned (.tuple #[.agg #[.int .i64 x0, .int .i64 x1, .int .i64 x2], .int .i64 er]) ∧ Below w.heap.size w w' ∧ Hid (R i (x0, x1, x2) er)
set_option maxRecDepth 100000 in
set_option maxHeartbeats 6400000 in
theorem eachMoved (c0 c1 c2 : Nat) (v : Value) (L : List R3) (k s h : Int) (R : Nat → R3 → Int → Prop) (w : World) (hr : Rd w v L) (hn : L.length ≤ 2) (hg : GivesMoved c0 c1 c2 w L.length R) :
    Calls Try.prog 139 #[.agg #[v, .int .i64 k, .int .i64 s, .int .i64 h], .func (.func 175) #[] #[.pointer (some ⟨c0, 0, none⟩), .pointer (some ⟨c1, 0, none⟩), .pointer (some ⟨c2, 0, none⟩)]] w (EachRet R L.length k s h w) := by
  obtain ⟨ao0, cap0, rfl, hc⟩ := hr
  obtain ⟨i0, hi, hz0, hz1, hz2⟩ := info_parts Try.infoRange
  have HG := Lib.hid hg
  clear hc hg
  generalize L.length = n at *
  clear L
  have E0 : Hid (ESt w (.slice ao0 n cap0) k s h [] none 0 (((w.alloc (.cells #[.slice ao0 n cap0, .int .i64 k, .int .i64 s, .int .i64 h] 62)).alloc (.cells #[.slice none 0 0, .int .i64 0, .int .i64 0, .int .i64 0] 62)).alloc (.cells #[.slice none 0 0, .int .i64 k, .int .i64 s, .int .i64 h] 62))) := Lib.hid ESt.new
  go_enter Try.func139, Try.ntmps139
  go_wp2_with fail
  go_loopg [7, 8, 9, 16] (n + 1) (fun gh _ _ _ v16 wr => ∃ (X : List R3) (ao : Option Addr) (cap : Nat), v16 = .int .i64 X.length ∧ (X.length ≤ n ∧ n - X.length < gh) ∧ Hid (∀ i x, X[i]? = some x → R i x 0) ∧ Hid (ESt w (.slice ao0 n cap0) k s h X ao cap wr))
  case atStart => exact ⟨[], none, 0, rfl, ⟨by simp, by simp⟩, Lib.hid (fun i x hx => by simp at hx), E0⟩
  case round =>
    obtain ⟨X, ao, cap, rfl, ⟨j0, jg⟩, hz, E1⟩ := hrel
    have KG := Lib.hid jg
    clear jg E0
    have r0 := E1.out.r.c0
    have r1 := E1.out.r.c1
    have r2 := E1.out.r.c2
    have r3 := E1.out.r.c3
    have g0 := E1.out.r.f0
    have z0 := E1.out.z.f0
    have z1 := E1.out.z.f1
    have z2 := E1.out.z.f2
    have z3 := E1.out.z.f3
    by_cases hj : X.length < n
    · have jw : IntKind.i64.wrap ((X.length : Int) + 1) = (X.length : Int) + 1 := IntWalk.i64_in _ (by omega)
      go_wp2_with fail
      refine (HG.out X.length hj _ E1.out.below).mono ?_
      rintro e w2 ⟨x0, x1, x2, er, rfl, hb2, FX⟩
      have E2 := Lib.hid (E1.out.keep hb2)
      clear hb2 E1 r0 r1 r2 r3 g0 z0 z1 z2 z3
      have E3 := Lib.hid (E2.out.keep (below_new w2 (.cells #[.int .i64 x0, .int .i64 x1, .int .i64 x2] 23)))
      have X3 := Lib.hid (B3.new (.int .i64 x0) (.int .i64 x1) (.int .i64 x2) 23 w2)
      clear E2
      by_cases c : er = 0
      · subst c
        go_upto_region 8 with fail
        generalize w2.alloc (.cells #[.int .i64 x0, .int .i64 x1, .int .i64 x2] 23) = w3 at *
        generalize w2.heap.size = xb at *
        have r0 := E3.out.r.c0
        have r1 := E3.out.r.c1
        have r2 := E3.out.r.c2
        have r3 := E3.out.r.c3
        have g0 := E3.out.r.f0
        have x0' := X3.out.c0
        have x1' := X3.out.c1
        have x2' := X3.out.c2
        have sz := E3.out.size
        have zx := X3.out.size
        go_wp2_with (first | (at_builtin; refine wpList_append_own _ rfl (.tmp 30) (.tmp 32) 40 rfl (w.heap.size + 3) 23 i0 (.agg #[.int .i64 0, .int .i64 0, .int .i64 0]) 3 24 Try.underlying40 hi hz0 hz1 hz2 rfl (by decide) _ X.length (cells3 X) rfl (E3.out.own.alloc _) ⟨w3.heap.size, 0, none⟩ 1 1 (cells3 [(x0, x1, x2)]) rfl rfl ?c1 ?c2 ?c3 ?c4 ?c5 ?_))
        case c1 => exact World.news_of_block (cs := #[.int .i64 x0, .int .i64 x1, .int .i64 x2]) (t := 23) (fr := (0, 0)) (heap_alloc_new w3 _)
        case c2 => exact cells3_one _
        case c3 => unfold maxLen; omega
        case c4 => omega
        case c5 => simp; omega
        intro v' w4 own4 grow4 _
        obtain ⟨g', cap', rfl⟩ := ownsRow_succ own4
        have E4 := Lib.hid ((E3.out.keep (below_new w3 (.cells #[.int .i64 x0, .int .i64 x1, .int .i64 x2] 23))).add own4 grow4)
        have B4 : Below (w.heap.size + 3) (w3.alloc (.cells #[.int .i64 x0, .int .i64 x1, .int .i64 x2] 23)) w4 := (Below.refl _ _).grown grow4 (by simp; omega) (fun g hg => (((E3.out.own.alloc (.cells #[.int .i64 x0, .int .i64 x1, .int .i64 x2] 23)).lt g hg)).1)
        have R4 := Lib.hid (blk_under (E3.out.r.keep (below_new w3 (.cells #[.int .i64 x0, .int .i64 x1, .int .i64 x2] 23))) B4 (by omega))
        clear own4 grow4 B4 E3 X3 r0 r1 r2 r3 g0 x0' x1' x2' sz zx
        have r0 := R4.out.c0
        have g0 := R4.out.f0
        go_wp2_with fail
        go_roundg (n - X.length)
        case measure => exact KG.out
        case rel => exact ⟨X ++ [(x0, x1, x2)], _, _, by simp, ⟨by simp; omega, by simp; omega⟩, Lib.hid (fun i x hx => by
            by_cases c : i < X.length
            · rw [List.getElem?_append_left c] at hx; exact hz.out i x hx
            · rw [List.getElem?_append_right (by omega)] at hx
              have e : i = X.length := by
                have := (List.getElem?_eq_some_iff.1 hx).1
                simp at this; omega
              subst e
              simp at hx; subst hx; exact FX.out), E4⟩
      · have c' : (er != 0) = true := by simp [c]
        have C := Lib.hid c
        clear c
        go_upto_region 7 with fail
        generalize w2.alloc (.cells #[.int .i64 x0, .int .i64 x1, .int .i64 x2] 23) = w3 at *
        have z0 := E3.out.z.f0
        have z1 := E3.out.z.f1
        have z2 := E3.out.z.f2
        have z3 := E3.out.z.f3
        have q0 := E3.out.z.c0
        have q1 := E3.out.z.c1
        have q2 := E3.out.z.c2
        have q3 := E3.out.z.c3
        go_wp2
        refine bodyPost_ret (v := .tuple #[.agg #[.slice none 0 0, .int .i64 0, .int .i64 0, .int .i64 0], .int .i64 er]) (by simp [results, Try.results139, go_sem, *]) rfl ⟨_, _, _, _, _, rfl, ?_, Lib.hid (Or.inr ⟨X.length, (x0, x1, x2), hj, FX.out, C.out, fun i hi => ?_, rfl, rfl, rfl, rfl⟩)⟩
        · repeat (first | exact E3.out.below | refine Below.setCell ?_ (by simp; try omega) _)
        · exact ⟨X[i]'hi, hz.out i _ (List.getElem?_eq_getElem hi)⟩
    · obtain rfl : X.length = n := by omega
      have q0 := E1.out.z.c0
      have q1 := E1.out.z.c1
      have q2 := E1.out.z.c2
      have q3 := E1.out.z.c3
      go_wp2
      refine bodyPost_ret (v := .tuple #[.agg #[.slice ao X.length cap, .int .i64 k, .int .i64 s, .int .i64 h], .int .i64 0]) (by simp [results, Try.results139, go_sem, *]) rfl ⟨_, _, _, _, _, rfl, ?_, Lib.hid (Or.inl ⟨X, rfl, hz.out, rfl, rfl, rfl, rfl, ?_⟩)⟩
      · repeat (first | exact E1.out.below | refine Below.setCell ?_ (by simp; try omega) _)
      · refine owns_base (base := w.heap.size + 3) ?_ (by omega)
        repeat (first | exact E1.out.own | refine ownsRow_setCell_below ?_ (by simp; try omega) _)
/-- moved's boxes: the domain, the numbers, the function, the result -/
structure MSt (w : World) (v : Value) (k s h : Int) (iv mv : Value) (wr : World) : Prop where
  below : Below w.heap.size w wr
  d : Blk w.heap.size v (.int .i64 k) (.int .i64 s) (.int .i64 h) wr
  i : wr.cell? ⟨w.heap.size + 1, 0, none⟩ = some iv
  m : wr.cell? ⟨w.heap.size + 2, 0, none⟩ = some mv
  z : Blk (w.heap.size + 3) (.slice none 0 0) (.int .i64 0) (.int .i64 0) (.int .i64 0) wr
theorem MSt.keep {w : World} {v : Value} {k s h : Int} {iv mv : Value} {wa wb : World} (t : MSt w v k s h iv mv wa) (hb : Below wa.heap.size wa wb) : MSt w v k s h iv mv wb :=
  ⟨t.below.trans (hb.mono t.below.size), t.d.keep hb, (hb.cell (p := ⟨w.heap.size + 1, 0, none⟩) (by have := t.z.size; simp; omega)).trans t.i, (hb.cell (p := ⟨w.heap.size + 2, 0, none⟩) (by have := t.z.size; simp; omega)).trans t.m, t.z.keep hb⟩
theorem MSt.new (w : World) (v : Value) (k s h : Int) (iv mv : Value) (t1 t2 t3 t4 : TypeId) : MSt w v k s h iv mv ((((w.alloc (.cells #[v, .int .i64 k, .int .i64 s, .int .i64 h] t1)).alloc (.cells #[iv] t2)).alloc (.cells #[mv] t3)).alloc (.cells #[.slice none 0 0, .int .i64 0, .int .i64 0, .int .i64 0] t4)) := by
  have n1 := below_new w (.cells #[v, .int .i64 k, .int .i64 s, .int .i64 h] t1)
  have b1 := Blk.new v (.int .i64 k) (.int .i64 s) (.int .i64 h) t1 w
  have s1 : (w.alloc (.cells #[v, .int .i64 k, .int .i64 s, .int .i64 h] t1)).heap.size = w.heap.size + 1 := by simp
  generalize w.alloc (.cells #[v, .int .i64 k, .int .i64 s, .int .i64 h] t1) = w1 at *
  have n2 := below_new w1 (.cells #[iv] t2)
  have c2 : (w1.alloc (.cells #[iv] t2)).cell? ⟨w1.heap.size, 0, none⟩ = some iv := by simp [go_sem]
  have s2 : (w1.alloc (.cells #[iv] t2)).heap.size = w1.heap.size + 1 := by simp
  generalize w1.alloc (.cells #[iv] t2) = w2 at *
  have n3 := below_new w2 (.cells #[mv] t3)
  have c3 : (w2.alloc (.cells #[mv] t3)).cell? ⟨w2.heap.size, 0, none⟩ = some mv := by simp [go_sem]
  have s3 : (w2.alloc (.cells #[mv] t3)).heap.size = w2.heap.size + 1 := by simp
  generalize w2.alloc (.cells #[mv] t3) = w3 at *
  have n4 := below_new w3 (.cells #[.slice none 0 0, .int .i64 0, .int .i64 0, .int .i64 0] t4)
  have b4 := Blk.new (.slice none 0 0) (.int .i64 0) (.int .i64 0) (.int .i64 0) t4 w3
  rw [s3, s2, s1] at b4
  rw [s1] at c2
  rw [s2, s1] at c3
  refine ⟨n1.trans ((n2.mono (by omega)).trans ((n3.mono (by omega)).trans (n4.mono (by omega)))), ((b1.keep n2).keep n3).keep n4, ?_, ?_, b4⟩
  · rw [n4.cell (p := ⟨w.heap.size + 1, 0, none⟩) (by simp; omega), n3.cell (p := ⟨w.heap.size + 1, 0, none⟩) (by simp; omega)]; exact c2
  · rw [n4.cell (p := ⟨w.heap.size + 2, 0, none⟩) (by simp; omega)]; exact c3
/-- what moved returns -/
def DMvP (R : Nat → R3 → Int → Prop) (L : List R3) (k s h : Int) (ns : List Int) (B : Nat) (v : Value) (k' s' h' er : Int) (w' : World) : Prop :=
  (¬ dchk L k s h = 0 ∧ er = dchk L k s h ∧ v = .slice none 0 0 ∧ k' = 0 ∧ s' = 0 ∧ h' = 0) ∨
  (dchk L k s h = 0 ∧ ¬ ns.length = L.length ∧ er = 5 ∧ v = .slice none 0 0 ∧ k' = 0 ∧ s' = 0 ∧ h' = 0) ∨
  (dchk L k s h = 0 ∧ ns.length = L.length ∧
    ((∃ X : List R3, X.length = L.length ∧ (∀ (i : Nat) (x : R3), X[i]? = some x → R i x 0) ∧ er = 0 ∧ k' = k ∧ s' = s ∧ h' = h ∧ w'.ownsRow B 23 3 v X.length (cells3 X)) ∨
     (∃ (j : Nat) (x : R3), j < L.length ∧ R j x er ∧ ¬ er = 0 ∧ (∀ i, i < j → ∃ y, R i y 0) ∧ v = .slice none 0 0 ∧ k' = 0 ∧ s' = 0 ∧ h' = 0)))
def DMvRet (R : Nat → R3 → Int → Prop) (L : List R3) (k s h : Int) (ns : List Int) (w : World) : Ending → World → Prop := fun e w' => ∃ (v : Value) (k' s' h' er : Int), e = .returned (.tuple #[.agg #[v, .int .i64 k', .int .i64 s', .int .i64 h'], .int .i64 er]) ∧ Below w.heap.size w w' ∧ (∃ a n c, v = .slice a n c) ∧
  Hid (DMvP R L k s h ns w.heap.size v k' s' h' er w')
theorem DMvP.keep {R : Nat → R3 → Int → Prop} {L : List R3} {k s h : Int} {ns : List Int} {B B' : Nat} {v : Value} {k' s' h' er : Int} {w1 w2 : World} (p : DMvP R L k s h ns B v k' s' h' er w1) (hB : B' ≤ B) (hb : Below B w1 w2) (hr : ∀ g, v.ownBlock = some g → ∃ C, g < C ∧ Below C w1 w2) : DMvP R L k s h ns B' v k' s' h' er w2 := by
  rcases p with p | p | ⟨c, l, ⟨X, a, b, e, e1, e2, e3, own⟩ | p⟩
  · exact Or.inl p
  · exact Or.inr (Or.inl p)
  · refine Or.inr (Or.inr ⟨c, l, Or.inl ⟨X, a, b, e, e1, e2, e3, owns_base ?_ hB⟩⟩)
    cases hv : v.ownBlock with
    | none =>
      rcases own.2 with ⟨h1, h2⟩ | ⟨g, cap, cur, rfl, _⟩
      · exact ⟨own.1, Or.inl ⟨h1, h2⟩⟩
      · cases hv
    | some g =>
      obtain ⟨C, hg, hC⟩ := hr g hv
      exact owns_under own hC (fun g' hg' => by rw [hv] at hg'; cases hg'; exact hg)
  · exact Or.inr (Or.inr ⟨c, l, Or.inr p⟩)
theorem DMvP.set {R : Nat → R3 → Int → Prop} {L : List R3} {k s h : Int} {ns : List Int} {B B' g : Nat} {v : Value} {k' s' h' er : Int} {w1 : World} (p : DMvP R L k s h ns B v k' s' h' er w1) (hB : B' ≤ B) (hg : g < B) (a b c d : Value) : DMvP R L k s h ns B' v k' s' h' er (set4 w1 g a b c d) := by
  rcases p with p | p | ⟨c', l, ⟨X, a', b', e, e1, e2, e3, own⟩ | p⟩
  · exact Or.inl p
  · exact Or.inr (Or.inl p)
  · refine Or.inr (Or.inr ⟨c', l, Or.inl ⟨X, a', b', e, e1, e2, e3, owns_base ?_ hB⟩⟩)
    unfold set4
    exact ownsRow_setCell_below (ownsRow_setCell_below (ownsRow_setCell_below (ownsRow_setCell_below own (by simpa using hg) _) (by simpa using hg) _) (by simpa using hg) _) (by simpa using hg) _
  · exact Or.inr (Or.inr ⟨c', l, Or.inr p⟩)
set_option maxRecDepth 100000 in
set_option maxHeartbeats 6400000 in
theorem moved_dom (fid : FuncId) (cs : Array Value) (v : Value) (L : List R3) (k s h : Int) (iv : Value) (ns : List Int) (R : Nat → R3 → Int → Prop) (w : World) (hr : Rd w v L) (hL : Ok3 L) (hi : Ri w iv ns) (hg : GivesMv (.func (.func fid) #[] cs) L ns R w) :
    Calls Try.prog 147 #[.agg #[v, .int .i64 k, .int .i64 s, .int .i64 h], iv, .func (.func fid) #[] cs] w (DMvRet R L k s h ns w) := by
  obtain ⟨ao, cap, rfl, hc⟩ := hr
  obtain ⟨ai, ci, rfl, hci⟩ := hi
  have HR : Hid (Rd w (.slice ao L.length cap) L) := Lib.hid ⟨ao, cap, rfl, hc⟩
  have HC := Lib.hid hc
  have HIC := Lib.hid hci
  have HL := Lib.hid hL
  have HG := Lib.hid hg
  clear hc hci hL hg
  have T0 := MSt.new w (.slice ao L.length cap) k s h (.slice ai ns.length ci) (.func (.func fid) #[] cs) 62 48 36 62
  go_enter Try.func147, Try.ntmps147
  go_upto_region 1 with fail
  generalize (((w.alloc (.cells #[.slice ao L.length cap, .int .i64 k, .int .i64 s, .int .i64 h] 62)).alloc (.cells #[.slice ai ns.length ci] 48)).alloc (.cells #[.func (.func fid) #[] cs] 36)).alloc (.cells #[.slice none 0 0, .int .i64 0, .int .i64 0, .int .i64 0] 62) = w0 at *
  have T0 := Lib.hid T0
  have x0 := T0.out.d.c0
  have x1 := T0.out.d.c1
  have x2 := T0.out.d.c2
  have x3 := T0.out.d.c3
  go_wp2_with fail
  refine (Dcheck_any _ L _ _ _ _ (HR.out.keep T0.out.below) HL.out).mono ?_
  rintro e w1 ⟨rfl, hb1⟩
  have T1 := Lib.hid (T0.out.keep hb1)
  clear hb1 T0 x0 x1 x2 x3
  have x0 := T1.out.d.c0
  have x1 := T1.out.d.c1
  have x2 := T1.out.d.c2
  have x3 := T1.out.d.c3
  have yi := T1.out.i
  have z0 := T1.out.z.c0
  have z1 := T1.out.z.c1
  have z2 := T1.out.z.c2
  have z3 := T1.out.z.c3
  have f0 := T1.out.z.f0
  have f1 := T1.out.z.f1
  have f2 := T1.out.z.f2
  have f3 := T1.out.z.f3
  by_cases c : dchk L k s h = 0
  · have c' : (dchk L k s h != 0) = false := by simp [c]
    have C := Lib.hid c
    have rk := Lib.hid (dchk_rank c)
    clear c
    by_cases ln : ns.length = L.length
    · have l' : ((ns.length : Int) != (L.length : Int)) = false := by simp [ln]
      have LN := Lib.hid ln
      obtain ⟨b, o, rfl, hb, hcell⟩ := HC.out.resolve_left (by have := rk.out; omega)
      obtain ⟨bi, oi, rfl, hbi, hicell⟩ := HIC.out.resolve_left (by have := rk.out; omega)
      have CL : Hid (At3 w b o L) := Lib.hid hcell
      have CI : Hid (At1 w bi oi ns) := Lib.hid hicell
      clear ln hcell hicell HC HIC
      go_wp2_with fail
      refine (eachMoved (w.heap.size + 2) w.heap.size (w.heap.size + 1) _ L k s h R w1 (HR.out.keep T1.out.below) (by have := rk.out; omega) ?_).mono ?_
      · intro i hi w2 hb2
        have T2 := T1.out.keep hb2
        have B2 := T2.below
        exact HG.out (w.heap.size + 2) w.heap.size (w.heap.size + 1) b o cap bi oi ci i w2 B2 T2.m T2.d.c0 T2.i (Nat.lt_of_lt_of_le hb B2.size) (Nat.lt_of_lt_of_le hbi B2.size) (CL.out.under B2 hb) (fun j x hx => (B2.cell (p := ⟨bi, oi + j, none⟩) hbi).trans (CI.out j x hx)) hi LN.out (by have := rk.out; omega)
      · rintro e w2 ⟨rv, kk, ss, hh, er, rfl, hb2, hE⟩
        have T2 := Lib.hid (T1.out.keep hb2)
        have P2 : Hid (DMvP R L k s h ns (w.heap.size + 4) rv kk ss hh er w2) := Lib.hid (Or.inr (Or.inr ⟨C.out, LN.out, by
          rcases hE.out with ⟨X, a, b, e, e1, e2, e3, own⟩ | q
          · exact Or.inl ⟨X, a, b, e, e1, e2, e3, owns_base own (by have := T1.out.z.size; omega)⟩
          · exact Or.inr q⟩))
        have hrv : ∃ a n c, rv = .slice a n c := by
          rcases hE.out with ⟨X, _, _, _, _, _, _, own⟩ | ⟨_, _, _, _, _, _, rfl, _⟩
          · obtain ⟨a, c, rfl⟩ := owns_slice own
            exact ⟨a, _, c, rfl⟩
          · exact ⟨_, _, _, rfl⟩
        obtain ⟨ra, rn, rc, rfl⟩ := hrv
        clear hE hb2 T1 x0 x1 x2 x3 yi z0 z1 z2 z3 f0 f1 f2 f3
        have z0 := T2.out.z.c0
        have z1 := T2.out.z.c1
        have z2 := T2.out.z.c2
        have z3 := T2.out.z.c3
        have f0 := T2.out.z.f0
        have f1 := T2.out.z.f1
        have f2 := T2.out.z.f2
        have f3 := T2.out.z.f3
        go_wp2
        refine bodyPost_ret (v := .tuple #[.agg #[.slice ra rn rc, .int .i64 kk, .int .i64 ss, .int .i64 hh], .int .i64 er]) (by simp [results, Try.results147, go_sem, *]) rfl ⟨_, _, _, _, _, rfl, ?_, ⟨_, _, _, rfl⟩, Lib.hid ?_⟩
        · repeat (first | exact T2.out.below | refine Below.setCell ?_ (by simp; try omega) _)
        · exact P2.out.set (by omega) (show w.heap.size + 3 < w.heap.size + 4 by omega) _ _ _ _
    · have l' : ((ns.length : Int) != (L.length : Int)) = true := by simp; omega
      have LN := Lib.hid ln
      clear ln
      go_wp2
      refine bodyPost_ret (v := .tuple #[.agg #[.slice none 0 0, .int .i64 0, .int .i64 0, .int .i64 0], .int .i64 5]) (by simp [results, Try.results147, go_sem, *]) rfl ⟨_, _, _, _, _, rfl, ?_, ⟨_, _, _, rfl⟩, Lib.hid (Or.inr (Or.inl ⟨C.out, LN.out, rfl, rfl, rfl, rfl, rfl⟩))⟩
      repeat (first | exact T1.out.below | refine Below.setCell ?_ (by simp; try omega) _)
  · have c' : (dchk L k s h != 0) = true := by simp [c]
    have C := Lib.hid c
    clear c
    go_wp2
    refine bodyPost_ret (v := .tuple #[.agg #[.slice none 0 0, .int .i64 0, .int .i64 0, .int .i64 0], .int .i64 (dchk L k s h)]) (by simp [results, Try.results147, go_sem, *]) rfl ⟨_, _, _, _, _, rfl, ?_, ⟨_, _, _, rfl⟩, Lib.hid (Or.inl ⟨C.out, rfl, rfl, rfl, rfl, rfl⟩)⟩
    repeat (first | exact T1.out.below | refine Below.setCell ?_ (by simp; try omega) _)
set_option maxRecDepth 100000 in
set_option maxHeartbeats 3200000 in
theorem DTranslate_any (g : Mv) (hg : Hid (MvOk 35 g)) (v : Value) (L : List R3) (k s h : Int) (iv : Value) (ns : List Int) (w : World) (hr : Rd w v L) (hL : Ok3 L) (hi : Ri w iv ns) (hN : Ok1 ns) :
    Calls Try.prog 74 #[.agg #[v, .int .i64 k, .int .i64 s, .int .i64 h], iv] w (DMvRet (RMv g L ns) L k s h ns w) := by
  obtain ⟨ao, cap, rfl, hc⟩ := hr
  obtain ⟨ai, ci, rfl, hci⟩ := hi
  have HR : Hid (Rd w (.slice ao L.length cap) L) := Lib.hid ⟨ao, cap, rfl, hc⟩
  have HI : Hid (Ri w (.slice ai ns.length ci) ns) := Lib.hid ⟨ai, ci, rfl, hci⟩
  have HL := Lib.hid hL
  have HN := Lib.hid hN
  clear hc hci hL hN
  go_enter Try.func74, Try.ntmps74
  go_wp2_with fail
  refine (moved_dom 35 #[] _ L k s h _ ns (RMv g L ns) _ ((HR.out.keep (below_new _ _)).keep (below_new _ _)) HL.out ((HI.out.keep (below_new _ _)).keep (below_new _ _)) (giveTranslate g hg L ns _ HL.out HN.out)).mono ?_
  rintro e w1 ⟨rv, kk, ss, hh, er, rfl, hb, ⟨ra, rn, rc, rfl⟩, hE⟩
  have S0 : ((w.alloc (.cells #[.slice ao L.length cap, .int .i64 k, .int .i64 s, .int .i64 h] 62)).alloc (.cells #[.slice none 0 0, .int .i64 0, .int .i64 0, .int .i64 0] 62)).heap.size = w.heap.size + 1 + 1 := by simp
  have R1 := res44 hb
  have P1 : Hid (DMvP (RMv g L ns) L k s h ns (w.heap.size + 1 + 1) (.slice ra rn rc) kk ss hh er w1) := Lib.hid (by have := hE.out; rwa [S0] at this)
  have B1 := Lib.hid R1.1
  have Z1 := Lib.hid R1.2.2
  clear hb hE S0 R1
  have z0 := Z1.out.c0
  have z1 := Z1.out.c1
  have z2 := Z1.out.c2
  have z3 := Z1.out.c3
  have f0 := Z1.out.f0
  have f1 := Z1.out.f1
  have f2 := Z1.out.f2
  have f3 := Z1.out.f3
  go_wp2
  refine bodyPost_ret (v := .tuple #[.agg #[.slice ra rn rc, .int .i64 kk, .int .i64 ss, .int .i64 hh], .int .i64 er]) (by simp [results, Try.results74, go_sem, *]) rfl ⟨_, _, _, _, _, rfl, ?_, ⟨_, _, _, rfl⟩, Lib.hid ?_⟩
  · repeat (first | exact B1.out | refine Below.setCell ?_ (by simp; try omega) _)
  · exact P1.out.set (by omega) (show w.heap.size + 1 < w.heap.size + 1 + 1 by omega) _ _ _ _
set_option maxRecDepth 100000 in
set_option maxHeartbeats 3200000 in
theorem DExpand_any (g : Mv) (hg : Hid (MvOk 37 g)) (v : Value) (L : List R3) (k s h : Int) (iv : Value) (ns : List Int) (w : World) (hr : Rd w v L) (hL : Ok3 L) (hi : Ri w iv ns) (hN : Ok1 ns) :
    Calls Try.prog 76 #[.agg #[v, .int .i64 k, .int .i64 s, .int .i64 h], iv] w (DMvRet (RMv g L ns) L k s h ns w) := by
  obtain ⟨ao, cap, rfl, hc⟩ := hr
  obtain ⟨ai, ci, rfl, hci⟩ := hi
  have HR : Hid (Rd w (.slice ao L.length cap) L) := Lib.hid ⟨ao, cap, rfl, hc⟩
  have HI : Hid (Ri w (.slice ai ns.length ci) ns) := Lib.hid ⟨ai, ci, rfl, hci⟩
  have HL := Lib.hid hL
  have HN := Lib.hid hN
  clear hc hci hL hN
  go_enter Try.func76, Try.ntmps76
  go_wp2_with fail
  refine (moved_dom 37 #[] _ L k s h _ ns (RMv g L ns) _ ((HR.out.keep (below_new _ _)).keep (below_new _ _)) HL.out ((HI.out.keep (below_new _ _)).keep (below_new _ _)) (giveExpand g hg L ns _ HL.out HN.out)).mono ?_
  rintro e w1 ⟨rv, kk, ss, hh, er, rfl, hb, ⟨ra, rn, rc, rfl⟩, hE⟩
  have S0 : ((w.alloc (.cells #[.slice ao L.length cap, .int .i64 k, .int .i64 s, .int .i64 h] 62)).alloc (.cells #[.slice none 0 0, .int .i64 0, .int .i64 0, .int .i64 0] 62)).heap.size = w.heap.size + 1 + 1 := by simp
  have R1 := res44 hb
  have P1 : Hid (DMvP (RMv g L ns) L k s h ns (w.heap.size + 1 + 1) (.slice ra rn rc) kk ss hh er w1) := Lib.hid (by have := hE.out; rwa [S0] at this)
  have B1 := Lib.hid R1.1
  have Z1 := Lib.hid R1.2.2
  clear hb hE S0 R1
  have z0 := Z1.out.c0
  have z1 := Z1.out.c1
  have z2 := Z1.out.c2
  have z3 := Z1.out.c3
  have f0 := Z1.out.f0
  have f1 := Z1.out.f1
  have f2 := Z1.out.f2
  have f3 := Z1.out.f3
  go_wp2
  refine bodyPost_ret (v := .tuple #[.agg #[.slice ra rn rc, .int .i64 kk, .int .i64 ss, .int .i64 hh], .int .i64 er]) (by simp [results, Try.results76, go_sem, *]) rfl ⟨_, _, _, _, _, rfl, ?_, ⟨_, _, _, rfl⟩, Lib.hid ?_⟩
  · repeat (first | exact B1.out | refine Below.setCell ?_ (by simp; try omega) _)
  · exact P1.out.set (by omega) (show w.heap.size + 1 < w.heap.size + 1 + 1 by omega) _ _ _ _
set_option maxRecDepth 100000 in
theorem unlessZero_any (fid : FuncId) (cs : Array Value) (w : World) : Calls Try.prog 149 #[.func (.func fid) #[] cs] w fun e w' => e = .returned (.func (.func 176) #[] #[.pointer (some ⟨w.heap.size, 0, none⟩)]) ∧ Below w.heap.size w w' ∧ w'.cell? ⟨w.heap.size, 0, none⟩ = some (.func (.func fid) #[] cs) := by
  go_enter Try.func149, Try.ntmps149
  go_wp2
  exact bodyPost_ret (v := .func (.func 176) #[] #[.pointer (some ⟨w.heap.size, 0, none⟩)]) (by simp [results, Try.results149, go_sem, *]) rfl ⟨rfl, below_new _ _, by simp [go_sem]⟩
set_option maxRecDepth 100000 in
set_option maxHeartbeats 3200000 in
theorem DInterior_any (g : Mv) (hg : Hid (MvOk 39 g)) (v : Value) (L : List R3) (k s h : Int) (iv : Value) (ns : List Int) (w : World) (hr : Rd w v L) (hL : Ok3 L) (hi : Ri w iv ns) (hN : Ok1 ns) :
    Calls Try.prog 78 #[.agg #[v, .int .i64 k, .int .i64 s, .int .i64 h], iv] w (DMvRet (RMv (uz g) L ns) L k s h ns w) := by
  obtain ⟨ao, cap, rfl, hc⟩ := hr
  obtain ⟨ai, ci, rfl, hci⟩ := hi
  have HR : Hid (Rd w (.slice ao L.length cap) L) := Lib.hid ⟨ao, cap, rfl, hc⟩
  have HI : Hid (Ri w (.slice ai ns.length ci) ns) := Lib.hid ⟨ai, ci, rfl, hci⟩
  have HL := Lib.hid hL
  have HN := Lib.hid hN
  clear hc hci hL hN
  have R0 := res44 (w := w) (t := 62) (t' := 62) (a := .slice ao L.length cap) (b := .int .i64 k) (c := .int .i64 s) (d := .int .i64 h) (a' := .slice none 0 0) (b' := .int .i64 0) (c' := .int .i64 0) (d' := .int .i64 0) (Below.refl _ _)
  go_enter Try.func78, Try.ntmps78
  go_upto_region 1 with fail
  generalize (w.alloc (.cells #[.slice ao L.length cap, .int .i64 k, .int .i64 s, .int .i64 h] 62)).alloc (.cells #[.slice none 0 0, .int .i64 0, .int .i64 0, .int .i64 0] 62) = w0 at *
  refine wp_region_held_drew (S := (fun w' => Below w.heap.size w w' ∧ Blk w.heap.size (.slice ao L.length cap) (.int .i64 k) (.int .i64 s) (.int .i64 h) w')) (by kernel_rfl) (And.intro (to_drew R0.1) (R0.2.1.keep (to_drew (Below.refl _ _)))) (fun hHeld => ?_)
  have Z := R0.2.2.keep (to_drew (Below.refl _ _))
  clear R0
  obtain ⟨v0, hv0⟩ : ∃ v0, v0 = w0.drew := ⟨_, rfl⟩
  rw [← hv0] at hHeld Z ⊢
  clear hv0
  refine wpAnyH_take (i := 0) (oi := { dst := some 6, op := Op.load 62 (Operand.tmp 2), type := 62, pos := "sets.go:32", after := #[], guard := none }) (v := ?_) rfl (by kernel_rfl) (by kernel_rfl) (by kernel_rfl) (fun _ _ _ h => h) (Or.inl ⟨by rfl, ?_⟩) (by assumption) ?_
  rotate_left
  · (intro wq hSw; (try dsimp only at hSw); have a0 := hSw.2.c0; have a1 := hSw.2.c1; have a2 := hSw.2.c2; have a3 := hSw.2.c3; clear hSw; go_simp; first | done | with_reducible rfl)
  try simp only [Act.put, List.setIfInBounds_toArray, List.set_cons_zero, List.set_cons_succ]
  refine wpAnyH_take (i := 1) (oi := { dst := some 7, op := Op.move (Operand.tmp 1), type := 48, pos := "sets.go:32", after := #[], guard := none }) (v := ?_) rfl (by kernel_rfl) (by kernel_rfl) (by kernel_rfl) (fun _ _ _ h => h) (Or.inl ⟨by rfl, ?_⟩) (by assumption) ?_
  rotate_left
  · (intro wq hSw; (try dsimp only at hSw); have a0 := hSw.2.c0; have a1 := hSw.2.c1; have a2 := hSw.2.c2; have a3 := hSw.2.c3; clear hSw; go_simp; first | done | with_reducible rfl)
  try simp only [Act.put, List.setIfInBounds_toArray, List.set_cons_zero, List.set_cons_succ]
  refine wpAnyH_ready (rs := [2]) (by kernel_rfl) (by simp) ?_
  refine AllReadyH.cons (o := { dst := some 8, op := Op.call { callee := Callee.value (Operand.func 149), args := #[Operand.func 39], argTypes := #[36] }, type := 36, pos := "sets.go:32", after := #[], guard := none }) rfl (fun K hK => ?_) AllReadyH.nil
  go_simp
  refine (unlessZero_any 39 #[] _).mono ?_
  rintro e v1 ⟨rfl, hq, hc3⟩
  have hq : Below v0.heap.size v0 v1 := ⟨hq.os, hq.tape, hq.output, hq.size, hq.block⟩
  have hS := And.intro (hHeld.1.trans (hq.mono hHeld.1.size)) (hHeld.2.keep hq)
  have Z := Z.keep hq
  go_wp2_with fail
  refine hK.out _ _ hS (fun hHeld => ?_)
  clear hK K hHeld
  clear hq
  generalize v0.heap.size = c3 at *
  have hHeld := hS
  clear hS
  try simp only [Act.put, List.setIfInBounds_toArray, List.set_cons_zero, List.set_cons_succ]
  refine wpAnyH_ready (rs := [3]) (by kernel_rfl) (by simp) ?_
  refine AllReadyH.cons (o := { dst := some 9, op := Op.call { callee := Callee.value (Operand.func 147), args := #[Operand.tmp 6, Operand.tmp 7, Operand.tmp 8], argTypes := #[62, 48, 36] }, type := 63, pos := "sets.go:32", after := #[{ on := 0, ground := Ground.data }, { on := 1, ground := Ground.data }, { on := 2, ground := Ground.data }, { on := 2, ground := Ground.chain }], guard := none }) rfl (fun K hK => ?_) AllReadyH.nil
  go_simp
  refine (moved_dom 176 #[.pointer (some ⟨c3, 0, none⟩)] _ L k s h _ ns (RMv (uz g) L ns) _ (HR.out.keep hHeld.1) HL.out (HI.out.keep hHeld.1) (giveUnlessZero g c3 (.func (.func 39) #[] #[]) (Lib.hid (fun x n w hc a b c d => ulInterior g hg x n c3 w hc a b c d)) L ns _ HL.out HN.out hc3)).mono ?_
  rintro e v2 ⟨rv, kk, ss, hh, er, rfl, hq, ⟨ra, rn, rc, rfl⟩, hE⟩
  have hq : Below v1.heap.size v1 v2 := ⟨hq.os, hq.tape, hq.output, hq.size, hq.block⟩
  have PB : w.heap.size + 1 < v1.heap.size := Z.size
  have P1 : DMvP (RMv (uz g) L ns) L k s h ns (w.heap.size + 1 + 1) (.slice ra rn rc) kk ss hh er v2 := hE.out.keep (by omega) (Below.refl _ _) (fun q hq => ⟨q + 1, by omega, Below.refl _ _⟩)
  have hS := And.intro (hHeld.1.trans (hq.mono hHeld.1.size)) (hHeld.2.keep hq)
  have Z := Z.keep hq
  go_wp2_with fail
  refine hK.out _ _ hS (fun hHeld => ?_)
  clear hK K hHeld
  clear hq hE PB hc3
  have hHeld := hS
  clear hS
  try simp only [Act.put, List.setIfInBounds_toArray, List.set_cons_zero, List.set_cons_succ]
  refine wpAnyH_take (i := 4) (oi := { dst := some 10, op := Op.extract (Operand.tmp 9) 0, type := 62, pos := "sets.go:32", after := #[{ on := 3, ground := Ground.data }], guard := none }) (v := ?_) rfl (by kernel_rfl) (by kernel_rfl) (by kernel_rfl) (fun _ _ _ h => h) (Or.inl ⟨by rfl, ?_⟩) (by assumption) ?_
  rotate_left
  · (intro wq hSw; (try dsimp only at hSw); have a0 := hSw.2.c0; have a1 := hSw.2.c1; have a2 := hSw.2.c2; have a3 := hSw.2.c3; clear hSw; go_simp; first | done | with_reducible rfl)
  try simp only [Act.put, List.setIfInBounds_toArray, List.set_cons_zero, List.set_cons_succ]
  refine wpAnyH_take (i := 5) (oi := { dst := some 11, op := Op.extract (Operand.tmp 9) 1, type := 24, pos := "sets.go:32", after := #[{ on := 3, ground := Ground.data }], guard := none }) (v := ?_) rfl (by kernel_rfl) (by kernel_rfl) (by kernel_rfl) (fun _ _ _ h => h) (Or.inl ⟨by rfl, ?_⟩) (by assumption) ?_
  rotate_left
  · (intro wq hSw; (try dsimp only at hSw); have a0 := hSw.2.c0; have a1 := hSw.2.c1; have a2 := hSw.2.c2; have a3 := hSw.2.c3; clear hSw; go_simp; first | done | with_reducible rfl)
  try simp only [Act.put, List.setIfInBounds_toArray, List.set_cons_zero, List.set_cons_succ]
  refine wpAnyH_ready (rs := [6]) (by kernel_rfl) (by simp) ?_
  refine AllReadyH.cons (o := { dst := none, op := Op.store 62 (Operand.tmp 4) (Operand.tmp 10), type := 0, pos := "sets.go:32", after := #[{ on := 4, ground := Ground.data }, { on := 3, ground := Ground.chain }, { on := 0, ground := Ground.phase }, { on := 1, ground := Ground.phase }, { on := 2, ground := Ground.phase }, { on := 3, ground := Ground.phase }, { on := 4, ground := Ground.phase }, { on := 5, ground := Ground.phase }], guard := none }) rfl (fun K hK => ?_) AllReadyH.nil
  go_simp
  have c0 := Z.c0
  have c1 := Z.c1
  have c2 := Z.c2
  have d3 := Z.c3
  have f0 := Z.f0
  have f1 := Z.f1
  have f2 := Z.f2
  have f3 := Z.f3
  go_simp
  have hS := And.intro (hHeld.1.trans (set4_below (Nat.le_succ w.heap.size) (.slice ra rn rc) (.int .i64 kk) (.int .i64 ss) (.int .i64 hh))) (hHeld.2.other (show w.heap.size ≠ w.heap.size + 1 by omega) (.slice ra rn rc) (.int .i64 kk) (.int .i64 ss) (.int .i64 hh))
  have Z := Z.set (.slice ra rn rc) (.int .i64 kk) (.int .i64 ss) (.int .i64 hh)
  have P1 := P1.set (B' := w.heap.size) (by omega) (show w.heap.size + 1 < w.heap.size + 1 + 1 by omega) (.slice ra rn rc) (.int .i64 kk) (.int .i64 ss) (.int .i64 hh)
  refine hK.out _ _ hS (fun hHeld => ?_)
  clear hK K hHeld
  clear c0 c1 c2 d3 f0 f1 f2 f3
  change wpAnyH _ _ _ _ _ _ _ _ (set4 v2 (w.heap.size + 1) (.slice ra rn rc) (.int .i64 kk) (.int .i64 ss) (.int .i64 hh))
  generalize set4 v2 (w.heap.size + 1) (.slice ra rn rc) (.int .i64 kk) (.int .i64 ss) (.int .i64 hh) = v3 at *
  have hHeld := hS
  clear hS
  try simp only [Act.put, List.setIfInBounds_toArray, List.set_cons_zero, List.set_cons_succ]
  refine wpAnyH_take (i := 7) (oi := { dst := some 5, op := Op.assign (Operand.tmp 11), type := 24, pos := "sets.go:32", after := #[{ on := 5, ground := Ground.data }, { on := 6, ground := Ground.chain }, { on := 0, ground := Ground.phase }, { on := 1, ground := Ground.phase }, { on := 2, ground := Ground.phase }, { on := 3, ground := Ground.phase }, { on := 4, ground := Ground.phase }, { on := 5, ground := Ground.phase }, { on := 6, ground := Ground.phase }], guard := none }) (v := ?_) rfl (by kernel_rfl) (by kernel_rfl) (by kernel_rfl) (fun _ _ _ h => h) (Or.inl ⟨by rfl, ?_⟩) (by assumption) ?_
  rotate_left
  · (intro wq hSw; (try dsimp only at hSw); have a0 := hSw.2.c0; have a1 := hSw.2.c1; have a2 := hSw.2.c2; have a3 := hSw.2.c3; clear hSw; go_simp; first | done | with_reducible rfl)
  try simp only [Act.put, List.setIfInBounds_toArray, List.set_cons_zero, List.set_cons_succ]
  refine wpAnyH_done (by kernel_rfl) ?_ _
  have HB := Lib.hid hHeld.1
  have PP := Lib.hid P1
  have e0 := Z.c0
  have e1 := Z.c1
  have e2 := Z.c2
  have e3 := Z.c3
  clear hHeld Z P1
  go_wp2
  exact bodyPost_ret (v := .tuple #[.agg #[.slice ra rn rc, .int .i64 kk, .int .i64 ss, .int .i64 hh], .int .i64 er]) (by simp [results, Try.results78, go_sem, *]) rfl ⟨_, _, _, _, _, rfl, HB.out, ⟨_, _, _, rfl⟩, PP⟩
set_option maxRecDepth 100000 in
set_option maxHeartbeats 3200000 in
theorem DExterior_any (g : Mv) (hg : Hid (MvOk 41 g)) (v : Value) (L : List R3) (k s h : Int) (iv : Value) (ns : List Int) (w : World) (hr : Rd w v L) (hL : Ok3 L) (hi : Ri w iv ns) (hN : Ok1 ns) :
    Calls Try.prog 80 #[.agg #[v, .int .i64 k, .int .i64 s, .int .i64 h], iv] w (DMvRet (RMv (uz g) L ns) L k s h ns w) := by
  obtain ⟨ao, cap, rfl, hc⟩ := hr
  obtain ⟨ai, ci, rfl, hci⟩ := hi
  have HR : Hid (Rd w (.slice ao L.length cap) L) := Lib.hid ⟨ao, cap, rfl, hc⟩
  have HI : Hid (Ri w (.slice ai ns.length ci) ns) := Lib.hid ⟨ai, ci, rfl, hci⟩
  have HL := Lib.hid hL
  have HN := Lib.hid hN
  clear hc hci hL hN
  have R0 := res44 (w := w) (t := 62) (t' := 62) (a := .slice ao L.length cap) (b := .int .i64 k) (c := .int .i64 s) (d := .int .i64 h) (a' := .slice none 0 0) (b' := .int .i64 0) (c' := .int .i64 0) (d' := .int .i64 0) (Below.refl _ _)
  go_enter Try.func80, Try.ntmps80
  go_upto_region 1 with fail
  generalize (w.alloc (.cells #[.slice ao L.length cap, .int .i64 k, .int .i64 s, .int .i64 h] 62)).alloc (.cells #[.slice none 0 0, .int .i64 0, .int .i64 0, .int .i64 0] 62) = w0 at *
  refine wp_region_held_drew (S := (fun w' => Below w.heap.size w w' ∧ Blk w.heap.size (.slice ao L.length cap) (.int .i64 k) (.int .i64 s) (.int .i64 h) w')) (by kernel_rfl) (And.intro (to_drew R0.1) (R0.2.1.keep (to_drew (Below.refl _ _)))) (fun hHeld => ?_)
  have Z := R0.2.2.keep (to_drew (Below.refl _ _))
  clear R0
  obtain ⟨v0, hv0⟩ : ∃ v0, v0 = w0.drew := ⟨_, rfl⟩
  rw [← hv0] at hHeld Z ⊢
  clear hv0
  refine wpAnyH_take (i := 0) (oi := { dst := some 6, op := Op.load 62 (Operand.tmp 2), type := 62, pos := "sets.go:37", after := #[], guard := none }) (v := ?_) rfl (by kernel_rfl) (by kernel_rfl) (by kernel_rfl) (fun _ _ _ h => h) (Or.inl ⟨by rfl, ?_⟩) (by assumption) ?_
  rotate_left
  · (intro wq hSw; (try dsimp only at hSw); have a0 := hSw.2.c0; have a1 := hSw.2.c1; have a2 := hSw.2.c2; have a3 := hSw.2.c3; clear hSw; go_simp; first | done | with_reducible rfl)
  try simp only [Act.put, List.setIfInBounds_toArray, List.set_cons_zero, List.set_cons_succ]
  refine wpAnyH_take (i := 1) (oi := { dst := some 7, op := Op.move (Operand.tmp 1), type := 48, pos := "sets.go:37", after := #[], guard := none }) (v := ?_) rfl (by kernel_rfl) (by kernel_rfl) (by kernel_rfl) (fun _ _ _ h => h) (Or.inl ⟨by rfl, ?_⟩) (by assumption) ?_
  rotate_left
  · (intro wq hSw; (try dsimp only at hSw); have a0 := hSw.2.c0; have a1 := hSw.2.c1; have a2 := hSw.2.c2; have a3 := hSw.2.c3; clear hSw; go_simp; first | done | with_reducible rfl)
  try simp only [Act.put, List.setIfInBounds_toArray, List.set_cons_zero, List.set_cons_succ]
  refine wpAnyH_ready (rs := [2]) (by kernel_rfl) (by simp) ?_
  refine AllReadyH.cons (o := { dst := some 8, op := Op.call { callee := Callee.value (Operand.func 149), args := #[Operand.func 41], argTypes := #[36] }, type := 36, pos := "sets.go:37", after := #[], guard := none }) rfl (fun K hK => ?_) AllReadyH.nil
  go_simp
  refine (unlessZero_any 41 #[] _).mono ?_
  rintro e v1 ⟨rfl, hq, hc3⟩
  have hq : Below v0.heap.size v0 v1 := ⟨hq.os, hq.tape, hq.output, hq.size, hq.block⟩
  have hS := And.intro (hHeld.1.trans (hq.mono hHeld.1.size)) (hHeld.2.keep hq)
  have Z := Z.keep hq
  go_wp2_with fail
  refine hK.out _ _ hS (fun hHeld => ?_)
  clear hK K hHeld
  clear hq
  generalize v0.heap.size = c3 at *
  have hHeld := hS
  clear hS
  try simp only [Act.put, List.setIfInBounds_toArray, List.set_cons_zero, List.set_cons_succ]
  refine wpAnyH_ready (rs := [3]) (by kernel_rfl) (by simp) ?_
  refine AllReadyH.cons (o := { dst := some 9, op := Op.call { callee := Callee.value (Operand.func 147), args := #[Operand.tmp 6, Operand.tmp 7, Operand.tmp 8], argTypes := #[62, 48, 36] }, type := 63, pos := "sets.go:37", after := #[{ on := 0, ground := Ground.data }, { on := 1, ground := Ground.data }, { on := 2, ground := Ground.data }, { on := 2, ground := Ground.chain }], guard := none }) rfl (fun K hK => ?_) AllReadyH.nil
  go_simp
  refine (moved_dom 176 #[.pointer (some ⟨c3, 0, none⟩)] _ L k s h _ ns (RMv (uz g) L ns) _ (HR.out.keep hHeld.1) HL.out (HI.out.keep hHeld.1) (giveUnlessZero g c3 (.func (.func 41) #[] #[]) (Lib.hid (fun x n w hc a b c d => ulExterior g hg x n c3 w hc a b c d)) L ns _ HL.out HN.out hc3)).mono ?_
  rintro e v2 ⟨rv, kk, ss, hh, er, rfl, hq, ⟨ra, rn, rc, rfl⟩, hE⟩
  have hq : Below v1.heap.size v1 v2 := ⟨hq.os, hq.tape, hq.output, hq.size, hq.block⟩
  have PB : w.heap.size + 1 < v1.heap.size := Z.size
  have P1 : DMvP (RMv (uz g) L ns) L k s h ns (w.heap.size + 1 + 1) (.slice ra rn rc) kk ss hh er v2 := hE.out.keep (by omega) (Below.refl _ _) (fun q hq => ⟨q + 1, by omega, Below.refl _ _⟩)
  have hS := And.intro (hHeld.1.trans (hq.mono hHeld.1.size)) (hHeld.2.keep hq)
  have Z := Z.keep hq
  go_wp2_with fail
  refine hK.out _ _ hS (fun hHeld => ?_)
  clear hK K hHeld
  clear hq hE PB hc3
  have hHeld := hS
  clear hS
  try simp only [Act.put, List.setIfInBounds_toArray, List.set_cons_zero, List.set_cons_succ]
  refine wpAnyH_take (i := 4) (oi := { dst := some 10, op := Op.extract (Operand.tmp 9) 0, type := 62, pos := "sets.go:37", after := #[{ on := 3, ground := Ground.data }], guard := none }) (v := ?_) rfl (by kernel_rfl) (by kernel_rfl) (by kernel_rfl) (fun _ _ _ h => h) (Or.inl ⟨by rfl, ?_⟩) (by assumption) ?_
  rotate_left
  · (intro wq hSw; (try dsimp only at hSw); have a0 := hSw.2.c0; have a1 := hSw.2.c1; have a2 := hSw.2.c2; have a3 := hSw.2.c3; clear hSw; go_simp; first | done | with_reducible rfl)
  try simp only [Act.put, List.setIfInBounds_toArray, List.set_cons_zero, List.set_cons_succ]
  refine wpAnyH_take (i := 5) (oi := { dst := some 11, op := Op.extract (Operand.tmp 9) 1, type := 24, pos := "sets.go:37", after := #[{ on := 3, ground := Ground.data }], guard := none }) (v := ?_) rfl (by kernel_rfl) (by kernel_rfl) (by kernel_rfl) (fun _ _ _ h => h) (Or.inl ⟨by rfl, ?_⟩) (by assumption) ?_
  rotate_left
  · (intro wq hSw; (try dsimp only at hSw); have a0 := hSw.2.c0; have a1 := hSw.2.c1; have a2 := hSw.2.c2; have a3 := hSw.2.c3; clear hSw; go_simp; first | done | with_reducible rfl)
  try simp only [Act.put, List.setIfInBounds_toArray, List.set_cons_zero, List.set_cons_succ]
  refine wpAnyH_ready (rs := [6]) (by kernel_rfl) (by simp) ?_
  refine AllReadyH.cons (o := { dst := none, op := Op.store 62 (Operand.tmp 4) (Operand.tmp 10), type := 0, pos := "sets.go:37", after := #[{ on := 4, ground := Ground.data }, { on := 3, ground := Ground.chain }, { on := 0, ground := Ground.phase }, { on := 1, ground := Ground.phase }, { on := 2, ground := Ground.phase }, { on := 3, ground := Ground.phase }, { on := 4, ground := Ground.phase }, { on := 5, ground := Ground.phase }], guard := none }) rfl (fun K hK => ?_) AllReadyH.nil
  go_simp
  have c0 := Z.c0
  have c1 := Z.c1
  have c2 := Z.c2
  have d3 := Z.c3
  have f0 := Z.f0
  have f1 := Z.f1
  have f2 := Z.f2
  have f3 := Z.f3
  go_simp
  have hS := And.intro (hHeld.1.trans (set4_below (Nat.le_succ w.heap.size) (.slice ra rn rc) (.int .i64 kk) (.int .i64 ss) (.int .i64 hh))) (hHeld.2.other (show w.heap.size ≠ w.heap.size + 1 by omega) (.slice ra rn rc) (.int .i64 kk) (.int .i64 ss) (.int .i64 hh))
  have Z := Z.set (.slice ra rn rc) (.int .i64 kk) (.int .i64 ss) (.int .i64 hh)
  have P1 := P1.set (B' := w.heap.size) (by omega) (show w.heap.size + 1 < w.heap.size + 1 + 1 by omega) (.slice ra rn rc) (.int .i64 kk) (.int .i64 ss) (.int .i64 hh)
  refine hK.out _ _ hS (fun hHeld => ?_)
  clear hK K hHeld
  clear c0 c1 c2 d3 f0 f1 f2 f3
  change wpAnyH _ _ _ _ _ _ _ _ (set4 v2 (w.heap.size + 1) (.slice ra rn rc) (.int .i64 kk) (.int .i64 ss) (.int .i64 hh))
  generalize set4 v2 (w.heap.size + 1) (.slice ra rn rc) (.int .i64 kk) (.int .i64 ss) (.int .i64 hh) = v3 at *
  have hHeld := hS
  clear hS
  try simp only [Act.put, List.setIfInBounds_toArray, List.set_cons_zero, List.set_cons_succ]
  refine wpAnyH_take (i := 7) (oi := { dst := some 5, op := Op.assign (Operand.tmp 11), type := 24, pos := "sets.go:37", after := #[{ on := 5, ground := Ground.data }, { on := 6, ground := Ground.chain }, { on := 0, ground := Ground.phase }, { on := 1, ground := Ground.phase }, { on := 2, ground := Ground.phase }, { on := 3, ground := Ground.phase }, { on := 4, ground := Ground.phase }, { on := 5, ground := Ground.phase }, { on := 6, ground := Ground.phase }], guard := none }) (v := ?_) rfl (by kernel_rfl) (by kernel_rfl) (by kernel_rfl) (fun _ _ _ h => h) (Or.inl ⟨by rfl, ?_⟩) (by assumption) ?_
  rotate_left
  · (intro wq hSw; (try dsimp only at hSw); have a0 := hSw.2.c0; have a1 := hSw.2.c1; have a2 := hSw.2.c2; have a3 := hSw.2.c3; clear hSw; go_simp; first | done | with_reducible rfl)
  try simp only [Act.put, List.setIfInBounds_toArray, List.set_cons_zero, List.set_cons_succ]
  refine wpAnyH_done (by kernel_rfl) ?_ _
  have HB := Lib.hid hHeld.1
  have PP := Lib.hid P1
  have e0 := Z.c0
  have e1 := Z.c1
  have e2 := Z.c2
  have e3 := Z.c3
  clear hHeld Z P1
  go_wp2
  exact bodyPost_ret (v := .tuple #[.agg #[.slice ra rn rc, .int .i64 kk, .int .i64 ss, .int .i64 hh], .int .i64 er]) (by simp [results, Try.results80, go_sem, *]) rfl ⟨_, _, _, _, _, rfl, HB.out, ⟨_, _, _, rfl⟩, PP⟩
end Go.Proofs.Ytabgphlpdoockaa
namespace Go.Proofs.Ytabgphlpdoockaa
/-- right ascending ranges -/
def Up (L : List R3) : Prop := ∀ x ∈ L, chk x.1 x.2.1 x.2.2 = 0 ∧ ¬ x.2.2 < 0
theorem siz_mem {l h s : Int} (hk : chk l h s = 0) : siz l h s = 0 ↔ ∀ n, ¬ RMem l h s n := by
  constructor
  · intro e n hn
    have h1 := (nums_mem hk n).2 hn
    have h2 := nums_len l h s
    rw [e] at h2
    rw [List.eq_nil_of_length_eq_zero h2] at h1
    cases h1
  · intro h1
    by_cases le : l ≤ h
    · exact absurd (rmem_lo le) (h1 l)
    · unfold siz; rw [if_neg (fun c => le c.2)]
theorem siz_nn {l h s : Int} (hk : chk l h s = 0) : 0 ≤ siz l h s := (siz_bdn hk).1
/-- what two ranges have in common is no more than the first one, and as much only if all of it -/
theorem siz_meet {a b c : R3} (hA : chk a.1 a.2.1 a.2.2 = 0) (hB : chk b.1 b.2.1 b.2.2 = 0) (f : InterF a.1 a.2.1 a.2.2 b.1 b.2.1 b.2.2 c.1 c.2.1 c.2.2) :
    siz c.1 c.2.1 c.2.2 ≤ siz a.1 a.2.1 a.2.2 ∧ (siz c.1 c.2.1 c.2.2 = siz a.1 a.2.1 a.2.2 → ∀ n, RMem a.1 a.2.1 a.2.2 n → RMem b.1 b.2.1 b.2.2 n) := by
  have e := nums_inter hA hB f.1 f.2.1 f.2.2
  have la := nums_len a.1 a.2.1 a.2.2
  have lc := nums_len c.1 c.2.1 c.2.2
  have na := siz_nn hA
  have nc := siz_nn f.1
  have le := List.length_filter_le (fun n => posB b.1 b.2.1 b.2.2 n) (numsL a.1 a.2.1 a.2.2)
  rw [← e] at le
  refine ⟨by omega, fun es n hn => ?_⟩
  have h1 : ((numsL a.1 a.2.1 a.2.2).filter (fun n => posB b.1 b.2.1 b.2.2 n)).length = (numsL a.1 a.2.1 a.2.2).length := by rw [← e]; omega
  have h2 := List.length_filter_eq_length_iff.1 h1 n ((nums_mem hA n).2 hn)
  exact (posB_iff hB).1 h2
/-- each range of the one has all numbers of the other one's -/
def Subs (A B : List R3) : Prop := ∀ (i : Nat) (x y : R3), A[i]? = some x → B[i]? = some y → ∀ n, RMem x.1 x.2.1 x.2.2 n → RMem y.1 y.2.1 y.2.2 n
theorem prod_le {A C : List R3} (hl : A.length = 1 ∨ A.length = 2) (hC : C.length = A.length) (h : ∀ (i : Nat) (x z : R3), A[i]? = some x → C[i]? = some z → 0 ≤ siz z.1 z.2.1 z.2.2 ∧ siz z.1 z.2.1 z.2.2 ≤ siz x.1 x.2.1 x.2.2) :
    prodL C ≤ prodL A ∧ (prodL C = prodL A → ¬ prodL A = 0 → ∀ (i : Nat) (x z : R3), A[i]? = some x → C[i]? = some z → siz z.1 z.2.1 z.2.2 = siz x.1 x.2.1 x.2.2) := by
  rcases hl with hl | hl
  · match A, C, hl, hC with
    | [x], [z], _, _ =>
      have h0 := h 0 x z rfl rfl
      refine ⟨by simpa [prodL] using h0.2, fun e _ i x' z' hx hz => ?_⟩
      match i, hx, hz with
      | 0, hx, hz =>
        simp at hx hz
        subst hx; subst hz
        simpa [prodL] using e
  · match A, C, hl, hC with
    | [x, y], [z, t], _, _ =>
      have h0 := h 0 x z rfl rfl
      have h1 := h 1 y t rfl rfl
      simp only [prodL]
      generalize ha : siz x.1 x.2.1 x.2.2 = a at *
      generalize hb : siz y.1 y.2.1 y.2.2 = b at *
      generalize hc : siz z.1 z.2.1 z.2.2 = c at *
      generalize hd : siz t.1 t.2.1 t.2.2 = d at *
      have m1 : c * d ≤ a * d := Int.mul_le_mul_of_nonneg_right h0.2 h1.1
      have m2 : a * d ≤ a * b := Int.mul_le_mul_of_nonneg_left h1.2 (by omega)
      refine ⟨by omega, fun e ne => ?_⟩
      have a0 : ¬ a = 0 := fun e => ne (by rw [e]; simp)
      have b0 : ¬ b = 0 := fun e => ne (by rw [e]; simp)
      have e1 : a * d = a * b := by omega
      have ed : d = b := Int.eq_of_mul_eq_mul_left a0 e1
      have e2 : c * d = a * d := by omega
      have ec : c = a := Int.eq_of_mul_eq_mul_right (by rw [ed]; exact b0) e2
      intro i x' z' hx hz
      match i, hx, hz with
      | 0, hx, hz =>
        simp at hx hz
        subst hx; subst hz
        rw [ha, hc, ec]
      | 1, hx, hz =>
        simp at hx hz
        subst hx; subst hz
        rw [hb, hd, ed]
theorem prod_zero {A : List R3} (hl : A.length = 1 ∨ A.length = 2) : prodL A = 0 ↔ ∃ (i : Nat) (x : R3), A[i]? = some x ∧ siz x.1 x.2.1 x.2.2 = 0 := by
  rcases hl with hl | hl
  · match A, hl with
    | [x], _ =>
      simp only [prodL]
      refine ⟨fun h => ⟨0, x, rfl, h⟩, ?_⟩
      rintro ⟨i, y, hy, h⟩
      match i, hy with
      | 0, hy => simp at hy; subst hy; exact h
  · match A, hl with
    | [x, y], _ =>
      simp only [prodL]
      refine ⟨fun h => ?_, ?_⟩
      · rcases Int.mul_eq_zero.1 h with h | h
        · exact ⟨0, x, rfl, h⟩
        · exact ⟨1, y, rfl, h⟩
      · rintro ⟨i, z, hz, h⟩
        match i, hz with
        | 0, hz => simp at hz; subst hz; rw [h]; simp
        | 1, hz => simp at hz; subst hz; rw [h]; simp
/-- the common part has as many indices as the first domain just if it is that domain, or that domain has none -/
theorem win_iff {A B C : List R3} (hA : Up A) (hB : Up B) (hl : A.length = 1 ∨ A.length = 2) (hab : A.length = B.length) (hm : Meets A B C) : prodL C = prodL A ↔ (prodL A = 0 ∨ Subs A B) := by
  have get : ∀ (i : Nat) (x z : R3), A[i]? = some x → C[i]? = some z → ∃ y, B[i]? = some y ∧ InterF x.1 x.2.1 x.2.2 y.1 y.2.1 y.2.2 z.1 z.2.1 z.2.2 := fun i x z hx hz => by
    obtain ⟨x', y, hx', hy, f⟩ := hm.2 i z hz
    rw [hx] at hx'; cases hx'
    exact ⟨y, hy, f⟩
  have hP := prod_le hl hm.1 (fun i x z hx hz => by
    obtain ⟨y, hy, f⟩ := get i x z hx hz
    exact ⟨siz_nn f.1, (siz_meet (hA x (List.mem_of_getElem? hx)).1 (hB y (List.mem_of_getElem? hy)).1 f).1⟩)
  constructor
  · intro e
    by_cases z : prodL A = 0
    · exact Or.inl z
    · right
      intro i x y hx hy n hn
      have hi : i < C.length := by rw [hm.1]; exact (List.getElem?_eq_some_iff.1 hx).1
      have hz : C[i]? = some C[i] := List.getElem?_eq_getElem hi
      obtain ⟨y', hy', f⟩ := get i x _ hx hz
      rw [hy] at hy'; cases hy'
      exact (siz_meet (hA x (List.mem_of_getElem? hx)).1 (hB y (List.mem_of_getElem? hy)).1 f).2 (hP.2 e z i x _ hx hz) n hn
  · rintro (z | hs)
    · have hC := prodL_bd C
      omega
    · have e : C = A := by
        apply List.ext_getElem?
        intro i
        by_cases hi : i < A.length
        · have hx : A[i]? = some A[i] := List.getElem?_eq_getElem hi
          have hz : C[i]? = some (C[i]'(by rw [hm.1]; exact hi)) := List.getElem?_eq_getElem _
          obtain ⟨y, hy, f⟩ := get i _ _ hx hz
          have f' : InterF A[i].1 A[i].2.1 A[i].2.2 y.1 y.2.1 y.2.2 A[i].1 A[i].2.1 A[i].2.2 :=
            ⟨(hA _ (List.mem_of_getElem? hx)).1, fun n => ⟨fun h => ⟨h, hs i _ y hx hy n h⟩, fun h => h.1⟩, fun _ => Iff.rfl⟩
          obtain ⟨e1, e2, e3⟩ := interF_uniq f f'
          rw [hx, hz]
          exact congrArg some (Prod.ext e1 (Prod.ext e2 e3))
        · rw [List.getElem?_eq_none (by rw [hm.1]; omega), List.getElem?_eq_none (by omega)]
      rw [e]
/-- what Within tells -/
def Win (A B : List R3) : Prop := prodL A = 0 ∨ Subs A B
end Go.Proofs.Ytabgphlpdoockaa
namespace Go.Proofs.Ytabgphlpdoockaa
open Go.RowKit
theorem idxL_one' {L : List R3} {x : R3} {i : Int} (hn : L.length = 1) (hx : L[0]? = some x) (h0 : 0 ≤ i) (h1 : i < prodL L) : idxL L i = [nthN x.1 x.2.1 x.2.2 i] := by
  match L, hn, hx with
  | [a], _, hx =>
    simp at hx; subst hx
    simp only [prodL] at h1
    rw [idxL_one, Int.emod_eq_of_lt h0 h1]
theorem idxL_two' {L : List R3} {x y : R3} {i : Int} (hn : L.length = 2) (hx : L[0]? = some x) (hy : L[1]? = some y) (h0 : 0 ≤ i) (h1 : i < prodL L) (hp : 1 ≤ siz y.1 y.2.1 y.2.2) :
    idxL L i = [nthN x.1 x.2.1 x.2.2 (i / siz y.1 y.2.1 y.2.2), nthN y.1 y.2.1 y.2.2 (i % siz y.1 y.2.1 y.2.2)] := by
  match L, hn, hx, hy with
  | [a, b], _, hx, hy =>
    simp at hx hy; subst hx hy
    simp only [prodL] at h1
    have q0 := Int.ediv_nonneg h0 (show 0 ≤ siz b.1 b.2.1 b.2.2 by omega)
    have q1 : i / siz b.1 b.2.1 b.2.2 < siz a.1 a.2.1 a.2.2 := Int.ediv_lt_of_lt_mul (by omega) h1
    rw [idxL_two, Int.emod_eq_of_lt q0 q1]
end Go.Proofs.Ytabgphlpdoockaa
