/-
  Part 15: LawDn.
-/
import Derived.Test.YtmelknodmbdhpaaOn14
import Derived.BigQuiet
import Derived.Deep.CutBlock
import Derived.Deep.DeepCutAuto
import Derived.Deep.DrawnRows
import Derived.Deep.LoopGhost
import Derived.Deep.QuietTactic
import Derived.Deep.RegionHeld3
import Derived.Deep.RegionWith
import Derived.Laws.EntriesVeiled
import Derived.Lib.Hide
import Derived.WalkKit
import Derived.WalkLawsBesides
import Derived.WalkSpells
namespace Go.Proofs.Ytmelknodmbdhpaa
open Go.RowKit
/-- the law's domain, and the list that it walks -/
structure ODn (w : World) (v : Value) (k s h : Int) (lv : Value) (E : List (Int × Int)) (wr : World) : Prop where
  t : DSt w v k s h wr
  l : Rp wr lv E
theorem ODn.keep {w : World} {v : Value} {k s h : Int} {lv : Value} {E : List (Int × Int)} {wa wb : World} (o : ODn w v k s h lv E wa) (hb : Below wa.heap.size wa wb) : ODn w v k s h lv E wb := ⟨o.t.keep hb, o.l.keep hb⟩
/-- a pair in a block -/
structure XB (g : Nat) (a b : Int) (w : World) : Prop where
  size : g < w.heap.size
  c0 : w.cell? ⟨g, 0, none⟩ = some (.int .i64 a)
  c1 : w.cell? ⟨g, 1, none⟩ = some (.int .i64 b)
theorem XB.keep {g : Nat} {a b : Int} {w w1 : World} (x : XB g a b w) (hb : Below w.heap.size w w1) : XB g a b w1 :=
  ⟨Nat.lt_of_lt_of_le x.size hb.size, (hb.cell (p := ⟨g, 0, none⟩) x.size).trans x.c0, (hb.cell (p := ⟨g, 1, none⟩) x.size).trans x.c1⟩
theorem XB.new (a b : Int) (t : TypeId) (w : World) : XB w.heap.size a b (w.alloc (.cells #[.int .i64 a, .int .i64 b] t)) ∧ Below w.heap.size w (w.alloc (.cells #[.int .i64 a, .int .i64 b] t)) := by
  refine ⟨⟨by simp, ?_, ?_⟩, below_new w _⟩ <;> simp [go_sem]
theorem Rp.at {w : World} {o : Option Addr} {n c : Nat} {l : List (Int × Int)} (r : Rp w (.slice o n c) l) {i : Nat} {p : Int × Int} (hp : l[i]? = some p) :
    ∃ b f : Nat, o = some ⟨b, f, none⟩ ∧ b < w.heap.size ∧ w.cell? ⟨b, f + i * 2, none⟩ = some (.int .i64 p.1) ∧ w.cell? ⟨b, f + i * 2 + 1, none⟩ = some (.int .i64 p.2) := by
  obtain ⟨ao, cap, e, h⟩ := r
  cases e
  have hi := (List.getElem?_eq_some_iff.1 hp).1
  obtain ⟨b, f, e, z, q⟩ := h.resolve_left (by omega)
  exact ⟨b, f, e, z, (q i p hp).1, (q i p hp).2⟩
/-- what is known of the list -/
def AtAll (L : List R3) (k s h : Int) (E : List (Int × Int)) : Prop := ∀ j : Nat, j < E.length → ∃ p, E[j]? = some p ∧ idxL L j = [p.1, p.2].take L.length ∧ dposB L k s h ([p.1, p.2].take L.length) = true ∧ dposN L k s h ([p.1, p.2].take L.length) = j ∧ I64 p.1 ∧ I64 p.2
def UpAll (E : List (Int × Int)) : Prop := ∀ (i : Nat) (p q : Int × Int), E[i + 1]? = some p → E[i]? = some q → q.1 < p.1 ∨ (q.1 = p.1 ∧ q.2 < p.2)
theorem atAll {L : List R3} {k s h : Int} (c : dchk L k s h = 0) : AtAll L k s h (domE L) := fun j hj => by
  have e := domE_len c
  obtain ⟨p, a⟩ := domE_at c j (by omega)
  exact ⟨p, a.get, a.idx, a.pos, a.num, a.bd1, a.bd2⟩
theorem upAll {L : List R3} {k s h : Int} (c : dchk L k s h = 0) : UpAll (domE L) := fun _ _ _ hp hq => domE_up c hp hq
set_option maxRecDepth 100000 in
set_option maxHeartbeats 25600000 in
theorem dn_bad (v : Value) (L : List R3) (k s h : Int) (w : World) (hr : Rd w v L) (hL : Ok3 L) (sb : smallB L k s h = false) :
    Calls Try.prog 14 #[.agg #[v, .int .i64 k, .int .i64 s, .int .i64 h]] w fun e w' => e = .returned (.bool true) ∧ Below w.heap.size w w' := by
  have HL := Lib.hid hL
  have HR : Hid (Rd w v L) := Lib.hid hr
  obtain ⟨od, cd, rfl, _⟩ := hr
  clear hL
  go_enter Try.func14, Try.ntmps14
  go_wp2_with fail
  refine (small_dom _ L k s h _ (HR.out.keep (below_new _ _)) HL.out).mono ?_
  rintro e w1 ⟨rfl, hb1⟩
  rw [sb]
  have R1 := resD hb1
  have D1 : Hid (DSt w (.slice od L.length cd) k s h w1) := Lib.hid ⟨R1.1, R1.2⟩
  clear hb1 R1
  go_wp2_with fail
  refine (awake2_any _).mono ?_
  rintro e y1 ⟨rfl, hb⟩
  have B := Lib.hid (D1.out.below.trans (hb.mono D1.out.below.size))
  clear hb D1
  go_wp2
  exact bodyPost_ret (v := .bool true) (by simp [results, Try.results14, go_sem, *]) rfl ⟨rfl, B.out⟩
/-- the cells of an element, whose place is known -/
theorem Rp.at' {w : World} {b f n c : Nat} {l : List (Int × Int)} (r : Rp w (.slice (some ⟨b, f, none⟩) n c) l) {i : Nat} {p : Int × Int} (hp : l[i]? = some p) :
    w.cell? ⟨b, f + i * 2, none⟩ = some (.int .i64 p.1) ∧ w.cell? ⟨b, f + i * 2 + 1, none⟩ = some (.int .i64 p.2) := by
  obtain ⟨b', f', e, _, q⟩ := r.at hp
  cases e
  exact q
set_option maxRecDepth 100000 in
set_option maxHeartbeats 25600000 in
theorem dn_good (v : Value) (L : List R3) (k s h : Int) (w : World) (hr : Rd w v L) (hL : Ok3 L) (c : dchk L k s h = 0) (p0 : prodL L ≤ 500) :
    Calls Try.prog 14 #[.agg #[v, .int .i64 k, .int .i64 s, .int .i64 h]] w fun e w' => e = .returned (.bool true) ∧ Below w.heap.size w w' := by
  have HL := Lib.hid hL
  have HR : Hid (Rd w v L) := Lib.hid hr
  obtain ⟨i0, hi, hz0, hz1, hz2⟩ := info_parts Try.infoPair
  obtain ⟨od, cd, rfl, _⟩ := hr
  have SB : Hid (smallB L k s h = true) := Lib.hid (by unfold smallB; simp [c, p0])
  have DS : Hid (dsiz L k s h = ((domE L).length : Int)) := Lib.hid (by unfold dsiz; rw [if_pos c, domE_len c])
  have LE : Hid (((domE L).length : Int) = prodL L) := Lib.hid (domE_len c)
  have rk := Lib.hid (dchk_rank c)
  have AT := Lib.hid (atAll c)
  have UP := Lib.hid (upAll c)
  have DC := Lib.hid c
  have P0 := Lib.hid p0
  have n5 : (domE L).length ≤ 500 := by have := LE.out; omega
  clear hL c p0
  go_enter Try.func14, Try.ntmps14
  go_wp2_with fail
  refine (small_dom _ L k s h _ (HR.out.keep (below_new _ _)) HL.out).mono ?_
  rintro e w1 ⟨rfl, hb1⟩
  rw [SB.out]
  have R1 := resD hb1
  have D1 : Hid (DSt w (.slice od L.length cd) k s h w1) := Lib.hid ⟨R1.1, R1.2⟩
  clear hb1 R1
  have d0 := D1.out.d.c0
  have d1 := D1.out.d.c1
  have d2 := D1.out.d.c2
  have d3 := D1.out.d.c3
  go_wp2_with fail
  refine (lawAll_any _ L k s h _ (HR.out.keep D1.out.below) HL.out DC.out P0.out).mono ?_
  rintro e w2 ⟨lv, rfl, own, hb⟩
  obtain ⟨ao, cp, rfl, q⟩ := Rp.of_own own.out
  have T2 : Hid (ODn w (.slice od L.length cd) k s h (.slice ao (domE L).length cp) (domE L) w2) := Lib.hid ⟨D1.out.keep hb, ao, cp, rfl, q⟩
  clear own hb q D1 d0 d1 d2 d3
  generalize domE L = E at *
  have d0 := T2.out.t.d.c0
  have d1 := T2.out.t.d.c1
  have d2 := T2.out.t.d.c2
  have d3 := T2.out.t.d.c3
  go_wp2_with fail
  refine (Dsize_any _ L k s h _ (HR.out.keep T2.out.t.below) HL.out).mono ?_
  rintro e w3 ⟨rfl, hb⟩
  rw [DS.out]
  have T3 := Lib.hid (T2.out.keep hb)
  clear hb T2 d0 d1 d2 d3
  go_wp2_with fail
  refine (sorted_any _ E _ T3.out.l (Lib.hid fun i p q a b => cmp_up (UP.out i p q a b)) (by omega)).mono ?_
  rintro e w4 ⟨rfl, hb⟩
  have T4 := Lib.hid (T3.out.keep hb)
  clear hb T3
  go_wp2_with fail
  go_loopg [5, 6, 7, 8, 9, 10, 38] (E.length + 1) (fun gh _ _ _ _ _ _ v38 wr => ∃ j : Nat, v38 = .int .i64 j ∧ (j ≤ E.length ∧ E.length - j < gh) ∧ Hid (ODn w (.slice od L.length cd) k s h (.slice ao E.length cp) E wr))
  case atStart => exact ⟨0, rfl, ⟨by omega, by omega⟩, T4⟩
  case round =>

    obtain ⟨j, rfl, ⟨j0, jg⟩, T5⟩ := hrel
    have KG := Lib.hid jg
    clear jg T4
    by_cases hj : j < E.length
    · obtain ⟨p, gp, ix, pb, pn, b1, b2⟩ := AT.out j hj
      obtain ⟨lb, lo, rfl, lz, p0, p1⟩ := T5.out.l.at gp
      have OX : Hid (Ok1 ([p.1, p.2].take L.length)) := Lib.hid fun x hx => by
        have := List.mem_of_mem_take hx
        simp at this
        rcases this with rfl | rfl <;> assumption
      have LX : Hid (([p.1, p.2].take L.length).length = L.length) := Lib.hid (by have := rk.out; simp; omega)
      have IX := Lib.hid ix
      have PB := Lib.hid pb
      have PN := Lib.hid pn
      have GP := Lib.hid gp
      have jw : IntKind.i64.wrap ((j : Int) + 1) = (j : Int) + 1 := IntWalk.i64_in _ (by omega)
      have jn : (j : Int) < (E.length : Int) := by omega
      have J1 : Hid ((0 : Int) ≤ j ∧ (j : Int) < prodL L) := Lib.hid (by have := LE.out; omega)
      clear ix pb pn b1 b2 gp
      go_upto_region 9 with fail

      obtain ⟨XN, xb⟩ := XB.new p.1 p.2 87 wr
      have T6 := Lib.hid (T5.out.keep xb)
      have X6 := Lib.hid XN
      have LZ : Hid (lb < (wr.alloc (.cells #[.int .i64 p.1, .int .i64 p.2] 87)).heap.size) := Lib.hid (Nat.lt_of_lt_of_le lz xb.size)
      clear p0 p1 T5 xb XN lz
      generalize wr.alloc (.cells #[.int .i64 p.1, .int .i64 p.2] 87) = u1 at *
      generalize wr.heap.size = xg at *
      have d0 := T6.out.t.d.c0
      have d1 := T6.out.t.d.c1
      have d2 := T6.out.t.d.c2
      have d3 := T6.out.t.d.c3
      go_wp2_with fail
      refine (Dnth_any _ L k s h j _ (HR.out.keep T6.out.t.below) HL.out).mono ?_
      rintro e y2 ⟨yv, er1, rfl, hb, hE1⟩
      obtain ⟨rfl, ry⟩ : er1 = 0 ∧ Ri y2 yv (idxL L j) := by
        obtain ⟨a, b⟩ := hE1.out
        have z : dnthE L k s h j = 0 := by unfold dnthE; rw [if_pos DC.out, if_pos J1.out]
        rcases b with ⟨c, o⟩ | ⟨c, _⟩
        · exact ⟨c, Ri.of_own o⟩
        · exact absurd (a.trans z) c
      rw [IX.out] at ry
      obtain ⟨xs, hxs⟩ : ∃ xs, xs = [p.1, p.2].take L.length := ⟨_, rfl⟩
      have HX := Lib.hid hxs
      rw [← hxs] at OX LX PB PN ry
      clear hxs IX
      obtain ⟨oy, cy, rfl, qy⟩ := ry
      have RY : Hid (Ri y2 (.slice oy xs.length cy) xs) := Lib.hid ⟨oy, cy, rfl, qy⟩
      have T7 := Lib.hid (T6.out.keep hb)
      have X7 := Lib.hid (X6.out.keep hb)
      have LZ2 : Hid (lb < y2.heap.size) := Lib.hid (Nat.lt_of_lt_of_le LZ.out hb.size)
      clear LZ
      have LZ := LZ2
      clear LZ2
      clear hb hE1 qy T6 X6 d0 d1 d2 d3
      go_upto_region 10 with fail

      refine wp_region_held_drew (S := (fun w' => Below y2.heap.size y2 w')) (by kernel_rfl) (to_drew (Below.refl _ _)) (fun hHeld => ?_)
      obtain ⟨v0, hv0⟩ : ∃ v0, v0 = y2.drew := ⟨_, rfl⟩
      rw [← hv0] at hHeld ⊢
      clear hv0

      have LQ := LZ
      clear LZ
      refine wpAnyH_take (i := 0) (oi := { dst := some 50, op := Op.load 62 (Operand.tmp 1), type := 62, pos := "outright.go:46", after := #[], guard := none }) (v := ?_) rfl (by kernel_rfl) (by kernel_rfl) (by kernel_rfl) (fun _ _ _ h => h) (Or.inl ⟨by rfl, ?_⟩) (by assumption) ?_
      rotate_left
      · (intro wq hSw; (try dsimp only at hSw); have K := T7.out.keep hSw; have c0 := K.t.d.c0; have c1 := K.t.d.c1; have c2 := K.t.d.c2; have c3 := K.t.d.c3; clear K; have X := X7.out.keep hSw; have x0 := X.c0; have x1 := X.c1; clear X; clear hSw; go_simp; first | done | with_reducible rfl)
      try simp only [Act.put, List.setIfInBounds_toArray, List.set_cons_zero, List.set_cons_succ]
      refine wpAnyH_take (i := 1) (oi := { dst := some 51, op := Op.load 62 (Operand.tmp 1), type := 62, pos := "outright.go:46", after := #[], guard := none }) (v := ?_) rfl (by kernel_rfl) (by kernel_rfl) (by kernel_rfl) (fun _ _ _ h => h) (Or.inl ⟨by rfl, ?_⟩) (by assumption) ?_
      rotate_left
      · (intro wq hSw; (try dsimp only at hSw); have K := T7.out.keep hSw; have c0 := K.t.d.c0; have c1 := K.t.d.c1; have c2 := K.t.d.c2; have c3 := K.t.d.c3; clear K; have X := X7.out.keep hSw; have x0 := X.c0; have x1 := X.c1; clear X; clear hSw; go_simp; first | done | with_reducible rfl)
      try simp only [Act.put, List.setIfInBounds_toArray, List.set_cons_zero, List.set_cons_succ]
      refine wpAnyH_take (i := 2) (oi := { dst := some 52, op := Op.load 87 (Operand.tmp 6), type := 87, pos := "outright.go:46", after := #[], guard := none }) (v := ?_) rfl (by kernel_rfl) (by kernel_rfl) (by kernel_rfl) (fun _ _ _ h => h) (Or.inl ⟨by rfl, ?_⟩) (by assumption) ?_
      rotate_left
      · (intro wq hSw; (try dsimp only at hSw); have K := T7.out.keep hSw; have c0 := K.t.d.c0; have c1 := K.t.d.c1; have c2 := K.t.d.c2; have c3 := K.t.d.c3; clear K; have X := X7.out.keep hSw; have x0 := X.c0; have x1 := X.c1; clear X; clear hSw; go_simp; first | done | with_reducible rfl)
      try simp only [Act.put, List.setIfInBounds_toArray, List.set_cons_zero, List.set_cons_succ]
      refine wpAnyH_ready (rs := [3]) (by kernel_rfl) (by simp) ?_
      refine AllReadyH.cons (o := { dst := some 53, op := Op.call { callee := Callee.value (Operand.func 96), args := #[Operand.tmp 51, Operand.tmp 52], argTypes := #[62, 87] }, type := 48, pos := "outright.go:46", after := #[{ on := 1, ground := Ground.data }, { on := 2, ground := Ground.data }], guard := none }) rfl (fun K hK => ?_) AllReadyH.nil
      go_simp
      refine (index_any _ L k s h p.1 p.2 _ (HR.out.keep (T7.out.keep hHeld).t.below) rk.out).mono ?_
      rintro e v1 ⟨u, rfl, hU, hq⟩
      have hq : Below v0.heap.size v0 v1 := ⟨hq.os, hq.tape, hq.output, hq.size, hq.block⟩
      have RU := hU.out
      rw [← HX.out] at RU
      obtain ⟨ou, cu, rfl, qu⟩ := RU
      have RU : Ri v1 (.slice ou xs.length cu) xs := ⟨ou, cu, rfl, qu⟩
      clear qu hU
      have hS := hHeld.trans (hq.mono hHeld.size)
      go_wp2_with fail
      refine hK.out _ _ hS (fun hHeld => ?_)
      clear hK K hHeld
      clear hq
      have hHeld := hS
      clear hS
      try simp only [Act.put, List.setIfInBounds_toArray, List.set_cons_zero, List.set_cons_succ]
      refine wpAnyH_ready (rs := [4]) (by kernel_rfl) (by simp) ?_
      refine AllReadyH.cons (o := { dst := some 54, op := Op.call { callee := Callee.value (Operand.func 64), args := #[Operand.tmp 50, Operand.tmp 53], argTypes := #[62, 48] }, type := 29, pos := "outright.go:46", after := #[{ on := 0, ground := Ground.data }, { on := 3, ground := Ground.data }, { on := 3, ground := Ground.chain }], guard := none }) rfl (fun K hK => ?_) AllReadyH.nil
      go_simp
      refine (Dpos_any _ L k s h _ xs _ (HR.out.keep (T7.out.keep hHeld).t.below) HL.out RU OX.out).mono ?_
      rintro e v2 ⟨rfl, hq⟩
      have hq : Below v1.heap.size v1 v2 := ⟨hq.os, hq.tape, hq.output, hq.size, hq.block⟩
      rw [PN.out, PB.out]
      have RU := RU.keep hq
      have hS := hHeld.trans (hq.mono hHeld.size)
      go_wp2_with fail
      refine hK.out _ _ hS (fun hHeld => ?_)
      clear hK K hHeld
      clear hq
      have hHeld := hS
      clear hS
      try simp only [Act.put, List.setIfInBounds_toArray, List.set_cons_zero, List.set_cons_succ]
      refine wpAnyH_take (i := 5) (oi := { dst := some 49, op := Op.move (Operand.tmp 54), type := 29, pos := "outright.go:46", after := #[{ on := 4, ground := Ground.data }], guard := none }) (v := ?_) rfl (by kernel_rfl) (by kernel_rfl) (by kernel_rfl) (fun _ _ _ h => h) (Or.inl ⟨by rfl, ?_⟩) (by assumption) ?_
      rotate_left
      · (intro wq hSw; (try dsimp only at hSw); have K := T7.out.keep hSw; have c0 := K.t.d.c0; have c1 := K.t.d.c1; have c2 := K.t.d.c2; have c3 := K.t.d.c3; clear K; have X := X7.out.keep hSw; have x0 := X.c0; have x1 := X.c1; clear X; clear hSw; go_simp; first | done | with_reducible rfl)
      try simp only [Act.put, List.setIfInBounds_toArray, List.set_cons_zero, List.set_cons_succ]
      refine wpAnyH_take (i := 6) (oi := { dst := some 55, op := Op.extract (Operand.tmp 49) 0, type := 3, pos := "outright.go:46", after := #[{ on := 5, ground := Ground.data }], guard := none }) (v := ?_) rfl (by kernel_rfl) (by kernel_rfl) (by kernel_rfl) (fun _ _ _ h => h) (Or.inl ⟨by rfl, ?_⟩) (by assumption) ?_
      rotate_left
      · (intro wq hSw; (try dsimp only at hSw); have K := T7.out.keep hSw; have c0 := K.t.d.c0; have c1 := K.t.d.c1; have c2 := K.t.d.c2; have c3 := K.t.d.c3; clear K; have X := X7.out.keep hSw; have x0 := X.c0; have x1 := X.c1; clear X; clear hSw; go_simp; first | done | with_reducible rfl)
      try simp only [Act.put, List.setIfInBounds_toArray, List.set_cons_zero, List.set_cons_succ]
      refine wpAnyH_take (i := 7) (oi := { dst := some 56, op := Op.extract (Operand.tmp 49) 1, type := 4, pos := "outright.go:46", after := #[{ on := 5, ground := Ground.data }, { on := 8, ground := Ground.gcOnly Departure.lateStores }], guard := none }) (v := ?_) rfl (by kernel_rfl) (by kernel_rfl) (by kernel_rfl) (fun _ _ _ h => h) (Or.inl ⟨by rfl, ?_⟩) (by assumption) ?_
      rotate_left
      · (intro wq hSw; (try dsimp only at hSw); have K := T7.out.keep hSw; have c0 := K.t.d.c0; have c1 := K.t.d.c1; have c2 := K.t.d.c2; have c3 := K.t.d.c3; clear K; have X := X7.out.keep hSw; have x0 := X.c0; have x1 := X.c1; clear X; clear hSw; go_simp; first | done | with_reducible rfl)
      try simp only [Act.put, List.setIfInBounds_toArray, List.set_cons_zero, List.set_cons_succ]
      refine wpAnyH_take (i := 8) (oi := { dst := some 9, op := Op.assign (Operand.tmp 55), type := 3, pos := "outright.go:46", after := #[{ on := 6, ground := Ground.data }, { on := 4, ground := Ground.chain }, { on := 0, ground := Ground.phase }, { on := 1, ground := Ground.phase }, { on := 2, ground := Ground.phase }, { on := 3, ground := Ground.phase }, { on := 4, ground := Ground.phase }, { on := 5, ground := Ground.phase }, { on := 6, ground := Ground.phase }, { on := 7, ground := Ground.textOnly Departure.lateStores }], guard := none }) (v := ?_) rfl (by kernel_rfl) (by kernel_rfl) (by kernel_rfl) (fun _ _ _ h => h) (Or.inl ⟨by rfl, ?_⟩) (by assumption) ?_
      rotate_left
      · (intro wq hSw; (try dsimp only at hSw); have K := T7.out.keep hSw; have c0 := K.t.d.c0; have c1 := K.t.d.c1; have c2 := K.t.d.c2; have c3 := K.t.d.c3; clear K; have X := X7.out.keep hSw; have x0 := X.c0; have x1 := X.c1; clear X; clear hSw; go_simp; first | done | with_reducible rfl)
      try simp only [Act.put, List.setIfInBounds_toArray, List.set_cons_zero, List.set_cons_succ]
      refine wpAnyH_take (i := 9) (oi := { dst := some 10, op := Op.assign (Operand.tmp 56), type := 4, pos := "outright.go:46", after := #[{ on := 7, ground := Ground.data }, { on := 8, ground := Ground.chain }, { on := 0, ground := Ground.phase }, { on := 1, ground := Ground.phase }, { on := 2, ground := Ground.phase }, { on := 3, ground := Ground.phase }, { on := 4, ground := Ground.phase }, { on := 5, ground := Ground.phase }, { on := 6, ground := Ground.phase }, { on := 7, ground := Ground.phase }, { on := 8, ground := Ground.phase }], guard := none }) (v := ?_) rfl (by kernel_rfl) (by kernel_rfl) (by kernel_rfl) (fun _ _ _ h => h) (Or.inl ⟨by rfl, ?_⟩) (by assumption) ?_
      rotate_left
      · (intro wq hSw; (try dsimp only at hSw); have K := T7.out.keep hSw; have c0 := K.t.d.c0; have c1 := K.t.d.c1; have c2 := K.t.d.c2; have c3 := K.t.d.c3; clear K; have X := X7.out.keep hSw; have x0 := X.c0; have x1 := X.c1; clear X; clear hSw; go_simp; first | done | with_reducible rfl)
      try simp only [Act.put, List.setIfInBounds_toArray, List.set_cons_zero, List.set_cons_succ]
      refine wpAnyH_done (by kernel_rfl) ?_ _
      have T8 := Lib.hid (T7.out.keep hHeld)
      have X8 := Lib.hid (X7.out.keep hHeld)
      have RY8 := Lib.hid (RY.out.keep hHeld)
      have LZ8 : Hid (lb < v2.heap.size) := Lib.hid (by have := hHeld.size; have := LQ.out; omega)
      clear hHeld RU T7 X7 RY LQ
      have RY := RY8
      clear RY8
      go_upto_region 11 with fail
      clear jn
      have jn : (j : Int) < (E.length : Int) := by omega
      obtain ⟨v9, hv9⟩ : ∃ v9, v9 = v2 := ⟨_, rfl⟩
      rw [← hv9] at T8 X8 RY LZ8 ⊢
      clear hv9
      by_cases jz : j = 0
      · subst jz
        refine wp_region_held_drew (S := (fun w' => Below v9.heap.size v9 w')) (by kernel_rfl) (to_drew (Below.refl _ _)) (fun hHeld => ?_)
        obtain ⟨v0, hv0⟩ : ∃ v0, v0 = v9.drew := ⟨_, rfl⟩
        rw [← hv0] at hHeld ⊢
        clear hv0

        refine wpAnyH_take (i := 0) (oi := { dst := some 57, op := Op.move (Operand.tmp 8), type := 24, pos := "outright.go:47", after := #[], guard := none }) (v := ?_) rfl (by kernel_rfl) (by kernel_rfl) (by kernel_rfl) (fun _ _ _ h => h) (Or.inl ⟨by rfl, ?_⟩) (by assumption) ?_
        rotate_left
        · (intro wq hSw; (try dsimp only at hSw); have K := T8.out.keep hSw; have c0 := K.t.d.c0; have c1 := K.t.d.c1; have c2 := K.t.d.c2; have c3 := K.t.d.c3; clear K; have X := X8.out.keep hSw; have x0 := X.c0; have x1 := X.c1; clear X; clear hSw; go_simp; first | done | with_reducible rfl)
        try simp only [Act.put, List.setIfInBounds_toArray, List.set_cons_zero, List.set_cons_succ]
        refine wpAnyH_take (i := 1) (oi := { dst := some 58, op := Op.binOp BinOp.neq 24 (Operand.tmp 57) (Operand.const (Value.int IntKind.i64 0)) 24, type := 4, pos := "outright.go:47", after := #[{ on := 0, ground := Ground.data }], guard := none }) (v := ?_) rfl (by kernel_rfl) (by kernel_rfl) (by kernel_rfl) (fun _ _ _ h => h) (Or.inl ⟨by rfl, ?_⟩) (by assumption) ?_
        rotate_left
        · (intro wq hSw; (try dsimp only at hSw); have K := T8.out.keep hSw; have c0 := K.t.d.c0; have c1 := K.t.d.c1; have c2 := K.t.d.c2; have c3 := K.t.d.c3; clear K; have X := X8.out.keep hSw; have x0 := X.c0; have x1 := X.c1; clear X; clear hSw; go_simp; first | done | with_reducible rfl)
        try simp only [Act.put, List.setIfInBounds_toArray, List.set_cons_zero, List.set_cons_succ]
        refine wpAnyH_take (i := 2) (oi := { dst := some 59, op := Op.move (Operand.tmp 58), type := 4, pos := "outright.go:47", after := #[{ on := 1, ground := Ground.data }], guard := none }) (v := ?_) rfl (by kernel_rfl) (by kernel_rfl) (by kernel_rfl) (fun _ _ _ h => h) (Or.inl ⟨by rfl, ?_⟩) (by assumption) ?_
        rotate_left
        · (intro wq hSw; (try dsimp only at hSw); have K := T8.out.keep hSw; have c0 := K.t.d.c0; have c1 := K.t.d.c1; have c2 := K.t.d.c2; have c3 := K.t.d.c3; clear K; have X := X8.out.keep hSw; have x0 := X.c0; have x1 := X.c1; clear X; clear hSw; go_simp; first | done | with_reducible rfl)
        try simp only [Act.put, List.setIfInBounds_toArray, List.set_cons_zero, List.set_cons_succ]
        refine wpAnyH_take (i := 3) (oi := { dst := some 60, op := Op.move (Operand.tmp 7), type := 48, pos := "outright.go:47", after := #[{ on := 2, ground := Ground.guard }], guard := some (2, false) }) (v := ?_) rfl (by kernel_rfl) (by kernel_rfl) (by kernel_rfl) (fun _ _ _ h => h) (Or.inl ⟨by rfl, ?_⟩) (by assumption) ?_
        rotate_left
        · (intro wq hSw; (try dsimp only at hSw); have K := T8.out.keep hSw; have c0 := K.t.d.c0; have c1 := K.t.d.c1; have c2 := K.t.d.c2; have c3 := K.t.d.c3; clear K; have X := X8.out.keep hSw; have x0 := X.c0; have x1 := X.c1; clear X; clear hSw; go_simp; first | done | with_reducible rfl)
        try simp only [Act.put, List.setIfInBounds_toArray, List.set_cons_zero, List.set_cons_succ]
        refine wpAnyH_take (i := 4) (oi := { dst := some 61, op := Op.load 62 (Operand.tmp 1), type := 62, pos := "outright.go:47", after := #[{ on := 2, ground := Ground.guard }], guard := some (2, false) }) (v := ?_) rfl (by kernel_rfl) (by kernel_rfl) (by kernel_rfl) (fun _ _ _ h => h) (Or.inl ⟨by rfl, ?_⟩) (by assumption) ?_
        rotate_left
        · (intro wq hSw; (try dsimp only at hSw); have K := T8.out.keep hSw; have c0 := K.t.d.c0; have c1 := K.t.d.c1; have c2 := K.t.d.c2; have c3 := K.t.d.c3; clear K; have X := X8.out.keep hSw; have x0 := X.c0; have x1 := X.c1; clear X; clear hSw; go_simp; first | done | with_reducible rfl)
        try simp only [Act.put, List.setIfInBounds_toArray, List.set_cons_zero, List.set_cons_succ]
        refine wpAnyH_take (i := 5) (oi := { dst := some 62, op := Op.load 87 (Operand.tmp 6), type := 87, pos := "outright.go:47", after := #[{ on := 2, ground := Ground.guard }], guard := some (2, false) }) (v := ?_) rfl (by kernel_rfl) (by kernel_rfl) (by kernel_rfl) (fun _ _ _ h => h) (Or.inl ⟨by rfl, ?_⟩) (by assumption) ?_
        rotate_left
        · (intro wq hSw; (try dsimp only at hSw); have K := T8.out.keep hSw; have c0 := K.t.d.c0; have c1 := K.t.d.c1; have c2 := K.t.d.c2; have c3 := K.t.d.c3; clear K; have X := X8.out.keep hSw; have x0 := X.c0; have x1 := X.c1; clear X; clear hSw; go_simp; first | done | with_reducible rfl)
        try simp only [Act.put, List.setIfInBounds_toArray, List.set_cons_zero, List.set_cons_succ]
        refine wpAnyH_ready (rs := [6]) (by kernel_rfl) (by simp) ?_
        refine AllReadyH.cons (o := { dst := some 63, op := Op.call { callee := Callee.value (Operand.func 96), args := #[Operand.tmp 61, Operand.tmp 62], argTypes := #[62, 87] }, type := 48, pos := "outright.go:47", after := #[{ on := 4, ground := Ground.data }, { on := 5, ground := Ground.data }, { on := 2, ground := Ground.chain }, { on := 2, ground := Ground.guard }], guard := some (2, false) }) rfl (fun K hK => ?_) AllReadyH.nil
        go_simp
        refine (index_any _ L k s h p.1 p.2 _ (HR.out.keep (T8.out.keep hHeld).t.below) rk.out).mono ?_
        rintro e v1 ⟨u, rfl, hU, hq⟩
        have hq : Below v0.heap.size v0 v1 := ⟨hq.os, hq.tape, hq.output, hq.size, hq.block⟩
        have RU := hU.out
        rw [← HX.out] at RU
        obtain ⟨ou, cu, rfl, qu⟩ := RU
        have RU : Ri v1 (.slice ou xs.length cu) xs := ⟨ou, cu, rfl, qu⟩
        clear qu hU
        have hS := hHeld.trans (hq.mono hHeld.size)
        go_wp2_with fail
        refine hK.out _ _ hS (fun hHeld => ?_)
        clear hK K hHeld
        clear hq
        have hHeld := hS
        clear hS
        try simp only [Act.put, List.setIfInBounds_toArray, List.set_cons_zero, List.set_cons_succ]
        refine wpAnyH_ready (rs := [7]) (by kernel_rfl) (by simp) ?_
        refine AllReadyH.cons (o := { dst := some 64, op := Op.call { callee := Callee.value (Operand.func 55), args := #[Operand.tmp 60, Operand.tmp 63], argTypes := #[48, 48] }, type := 4, pos := "outright.go:47", after := #[{ on := 3, ground := Ground.data }, { on := 6, ground := Ground.data }, { on := 6, ground := Ground.chain }, { on := 2, ground := Ground.guard }], guard := some (2, false) }) rfl (fun K hK => ?_) AllReadyH.nil
        go_simp
        refine (equalRi_any _ _ xs _ (RY.out.keep hHeld) RU (by have := LX.out; have := rk.out; omega)).mono ?_
        rintro e v2 ⟨rfl, hq⟩
        have hq : Below v1.heap.size v1 v2 := ⟨hq.os, hq.tape, hq.output, hq.size, hq.block⟩
        have RU := RU.keep hq
        have hS := hHeld.trans (hq.mono hHeld.size)
        go_wp2_with fail
        refine hK.out _ _ hS (fun hHeld => ?_)
        clear hK K hHeld
        clear hq
        have hHeld := hS
        clear hS
        try simp only [Act.put, List.setIfInBounds_toArray, List.set_cons_zero, List.set_cons_succ]
        refine wpAnyH_take (i := 8) (oi := { dst := some 65, op := Op.unOp UnOp.not 4 (Operand.tmp 64), type := 4, pos := "outright.go:47", after := #[{ on := 7, ground := Ground.data }, { on := 2, ground := Ground.guard }], guard := some (2, false) }) (v := ?_) rfl (by kernel_rfl) (by kernel_rfl) (by kernel_rfl) (fun _ _ _ h => h) (Or.inl ⟨by rfl, ?_⟩) (by assumption) ?_
        rotate_left
        · (intro wq hSw; (try dsimp only at hSw); have K := T8.out.keep hSw; have c0 := K.t.d.c0; have c1 := K.t.d.c1; have c2 := K.t.d.c2; have c3 := K.t.d.c3; clear K; have X := X8.out.keep hSw; have x0 := X.c0; have x1 := X.c1; clear X; clear hSw; go_simp; first | done | with_reducible rfl)
        try simp only [Act.put, List.setIfInBounds_toArray, List.set_cons_zero, List.set_cons_succ]
        refine wpAnyH_take (i := 9) (oi := { dst := some 66, op := Op.pick (Operand.tmp 59) (Operand.const (Value.bool true)) (Operand.tmp 65), type := 4, pos := "outright.go:47", after := #[{ on := 2, ground := Ground.data }, { on := 8, ground := Ground.data }], guard := none }) (v := ?_) rfl (by kernel_rfl) (by kernel_rfl) (by kernel_rfl) (fun _ _ _ h => h) (Or.inl ⟨by rfl, ?_⟩) (by assumption) ?_
        rotate_left
        · (intro wq hSw; (try dsimp only at hSw); have K := T8.out.keep hSw; have c0 := K.t.d.c0; have c1 := K.t.d.c1; have c2 := K.t.d.c2; have c3 := K.t.d.c3; clear K; have X := X8.out.keep hSw; have x0 := X.c0; have x1 := X.c1; clear X; clear hSw; go_simp; first | done | with_reducible rfl)
        try simp only [Act.put, List.setIfInBounds_toArray, List.set_cons_zero, List.set_cons_succ]
        refine wpAnyH_take (i := 10) (oi := { dst := some 67, op := Op.move (Operand.tmp 66), type := 4, pos := "outright.go:47", after := #[{ on := 9, ground := Ground.data }, { on := 7, ground := Ground.chain }], guard := none }) (v := ?_) rfl (by kernel_rfl) (by kernel_rfl) (by kernel_rfl) (fun _ _ _ h => h) (Or.inl ⟨by rfl, ?_⟩) (by assumption) ?_
        rotate_left
        · (intro wq hSw; (try dsimp only at hSw); have K := T8.out.keep hSw; have c0 := K.t.d.c0; have c1 := K.t.d.c1; have c2 := K.t.d.c2; have c3 := K.t.d.c3; clear K; have X := X8.out.keep hSw; have x0 := X.c0; have x1 := X.c1; clear X; clear hSw; go_simp; first | done | with_reducible rfl)
        try simp only [Act.put, List.setIfInBounds_toArray, List.set_cons_zero, List.set_cons_succ]
        refine wpAnyH_take (i := 11) (oi := { dst := some 68, op := Op.move (Operand.tmp 10), type := 4, pos := "outright.go:47", after := #[{ on := 10, ground := Ground.guard }], guard := some (10, false) }) (v := ?_) rfl (by kernel_rfl) (by kernel_rfl) (by kernel_rfl) (fun _ _ _ h => h) (Or.inl ⟨by rfl, ?_⟩) (by assumption) ?_
        rotate_left
        · (intro wq hSw; (try dsimp only at hSw); have K := T8.out.keep hSw; have c0 := K.t.d.c0; have c1 := K.t.d.c1; have c2 := K.t.d.c2; have c3 := K.t.d.c3; clear K; have X := X8.out.keep hSw; have x0 := X.c0; have x1 := X.c1; clear X; clear hSw; go_simp; first | done | with_reducible rfl)
        try simp only [Act.put, List.setIfInBounds_toArray, List.set_cons_zero, List.set_cons_succ]
        refine wpAnyH_take (i := 12) (oi := { dst := some 69, op := Op.unOp UnOp.not 4 (Operand.tmp 68), type := 4, pos := "outright.go:47", after := #[{ on := 11, ground := Ground.data }, { on := 10, ground := Ground.guard }], guard := some (10, false) }) (v := ?_) rfl (by kernel_rfl) (by kernel_rfl) (by kernel_rfl) (fun _ _ _ h => h) (Or.inl ⟨by rfl, ?_⟩) (by assumption) ?_
        rotate_left
        · (intro wq hSw; (try dsimp only at hSw); have K := T8.out.keep hSw; have c0 := K.t.d.c0; have c1 := K.t.d.c1; have c2 := K.t.d.c2; have c3 := K.t.d.c3; clear K; have X := X8.out.keep hSw; have x0 := X.c0; have x1 := X.c1; clear X; clear hSw; go_simp; first | done | with_reducible rfl)
        try simp only [Act.put, List.setIfInBounds_toArray, List.set_cons_zero, List.set_cons_succ]
        refine wpAnyH_take (i := 13) (oi := { dst := some 70, op := Op.pick (Operand.tmp 67) (Operand.const (Value.bool true)) (Operand.tmp 69), type := 4, pos := "outright.go:47", after := #[{ on := 10, ground := Ground.data }, { on := 12, ground := Ground.data }], guard := none }) (v := ?_) rfl (by kernel_rfl) (by kernel_rfl) (by kernel_rfl) (fun _ _ _ h => h) (Or.inl ⟨by rfl, ?_⟩) (by assumption) ?_
        rotate_left
        · (intro wq hSw; (try dsimp only at hSw); have K := T8.out.keep hSw; have c0 := K.t.d.c0; have c1 := K.t.d.c1; have c2 := K.t.d.c2; have c3 := K.t.d.c3; clear K; have X := X8.out.keep hSw; have x0 := X.c0; have x1 := X.c1; clear X; clear hSw; go_simp; first | done | with_reducible rfl)
        try simp only [Act.put, List.setIfInBounds_toArray, List.set_cons_zero, List.set_cons_succ]
        refine wpAnyH_take (i := 14) (oi := { dst := some 71, op := Op.move (Operand.tmp 70), type := 4, pos := "outright.go:47", after := #[{ on := 13, ground := Ground.data }, { on := 10, ground := Ground.chain }], guard := none }) (v := ?_) rfl (by kernel_rfl) (by kernel_rfl) (by kernel_rfl) (fun _ _ _ h => h) (Or.inl ⟨by rfl, ?_⟩) (by assumption) ?_
        rotate_left
        · (intro wq hSw; (try dsimp only at hSw); have K := T8.out.keep hSw; have c0 := K.t.d.c0; have c1 := K.t.d.c1; have c2 := K.t.d.c2; have c3 := K.t.d.c3; clear K; have X := X8.out.keep hSw; have x0 := X.c0; have x1 := X.c1; clear X; clear hSw; go_simp; first | done | with_reducible rfl)
        try simp only [Act.put, List.setIfInBounds_toArray, List.set_cons_zero, List.set_cons_succ]
        refine wpAnyH_take (i := 15) (oi := { dst := some 72, op := Op.move (Operand.tmp 9), type := 3, pos := "outright.go:47", after := #[{ on := 14, ground := Ground.guard }], guard := some (14, false) }) (v := ?_) rfl (by kernel_rfl) (by kernel_rfl) (by kernel_rfl) (fun _ _ _ h => h) (Or.inl ⟨by rfl, ?_⟩) (by assumption) ?_
        rotate_left
        · (intro wq hSw; (try dsimp only at hSw); have K := T8.out.keep hSw; have c0 := K.t.d.c0; have c1 := K.t.d.c1; have c2 := K.t.d.c2; have c3 := K.t.d.c3; clear K; have X := X8.out.keep hSw; have x0 := X.c0; have x1 := X.c1; clear X; clear hSw; go_simp; first | done | with_reducible rfl)
        try simp only [Act.put, List.setIfInBounds_toArray, List.set_cons_zero, List.set_cons_succ]
        refine wpAnyH_take (i := 16) (oi := { dst := some 73, op := Op.move (Operand.tmp 5), type := 3, pos := "outright.go:47", after := #[{ on := 14, ground := Ground.guard }], guard := some (14, false) }) (v := ?_) rfl (by kernel_rfl) (by kernel_rfl) (by kernel_rfl) (fun _ _ _ h => h) (Or.inl ⟨by rfl, ?_⟩) (by assumption) ?_
        rotate_left
        · (intro wq hSw; (try dsimp only at hSw); have K := T8.out.keep hSw; have c0 := K.t.d.c0; have c1 := K.t.d.c1; have c2 := K.t.d.c2; have c3 := K.t.d.c3; clear K; have X := X8.out.keep hSw; have x0 := X.c0; have x1 := X.c1; clear X; clear hSw; go_simp; first | done | with_reducible rfl)
        try simp only [Act.put, List.setIfInBounds_toArray, List.set_cons_zero, List.set_cons_succ]
        refine wpAnyH_take (i := 17) (oi := { dst := some 74, op := Op.binOp BinOp.neq 3 (Operand.tmp 72) (Operand.tmp 73) 3, type := 4, pos := "outright.go:47", after := #[{ on := 15, ground := Ground.data }, { on := 16, ground := Ground.data }, { on := 14, ground := Ground.guard }], guard := some (14, false) }) (v := ?_) rfl (by kernel_rfl) (by kernel_rfl) (by kernel_rfl) (fun _ _ _ h => h) (Or.inl ⟨by rfl, ?_⟩) (by assumption) ?_
        rotate_left
        · (intro wq hSw; (try dsimp only at hSw); have K := T8.out.keep hSw; have c0 := K.t.d.c0; have c1 := K.t.d.c1; have c2 := K.t.d.c2; have c3 := K.t.d.c3; clear K; have X := X8.out.keep hSw; have x0 := X.c0; have x1 := X.c1; clear X; clear hSw; go_simp; first | done | with_reducible rfl)
        try simp only [Act.put, List.setIfInBounds_toArray, List.set_cons_zero, List.set_cons_succ]
        refine wpAnyH_take (i := 18) (oi := { dst := some 75, op := Op.pick (Operand.tmp 71) (Operand.const (Value.bool true)) (Operand.tmp 74), type := 4, pos := "outright.go:47", after := #[{ on := 14, ground := Ground.data }, { on := 17, ground := Ground.data }], guard := none }) (v := ?_) rfl (by kernel_rfl) (by kernel_rfl) (by kernel_rfl) (fun _ _ _ h => h) (Or.inl ⟨by rfl, ?_⟩) (by assumption) ?_
        rotate_left
        · (intro wq hSw; (try dsimp only at hSw); have K := T8.out.keep hSw; have c0 := K.t.d.c0; have c1 := K.t.d.c1; have c2 := K.t.d.c2; have c3 := K.t.d.c3; clear K; have X := X8.out.keep hSw; have x0 := X.c0; have x1 := X.c1; clear X; clear hSw; go_simp; first | done | with_reducible rfl)
        try simp only [Act.put, List.setIfInBounds_toArray, List.set_cons_zero, List.set_cons_succ]
        refine wpAnyH_take (i := 19) (oi := { dst := some 76, op := Op.move (Operand.tmp 75), type := 4, pos := "outright.go:47", after := #[{ on := 18, ground := Ground.data }, { on := 14, ground := Ground.chain }], guard := none }) (v := ?_) rfl (by kernel_rfl) (by kernel_rfl) (by kernel_rfl) (fun _ _ _ h => h) (Or.inl ⟨by rfl, ?_⟩) (by assumption) ?_
        rotate_left
        · (intro wq hSw; (try dsimp only at hSw); have K := T8.out.keep hSw; have c0 := K.t.d.c0; have c1 := K.t.d.c1; have c2 := K.t.d.c2; have c3 := K.t.d.c3; clear K; have X := X8.out.keep hSw; have x0 := X.c0; have x1 := X.c1; clear X; clear hSw; go_simp; first | done | with_reducible rfl)
        try simp only [Act.put, List.setIfInBounds_toArray, List.set_cons_zero, List.set_cons_succ]
        refine wpAnyH_take (i := 20) (oi := { dst := some 77, op := Op.load 62 (Operand.tmp 1), type := 62, pos := "outright.go:47", after := #[{ on := 19, ground := Ground.guard }], guard := some (19, false) }) (v := ?_) rfl (by kernel_rfl) (by kernel_rfl) (by kernel_rfl) (fun _ _ _ h => h) (Or.inl ⟨by rfl, ?_⟩) (by assumption) ?_
        rotate_left
        · (intro wq hSw; (try dsimp only at hSw); have K := T8.out.keep hSw; have c0 := K.t.d.c0; have c1 := K.t.d.c1; have c2 := K.t.d.c2; have c3 := K.t.d.c3; clear K; have X := X8.out.keep hSw; have x0 := X.c0; have x1 := X.c1; clear X; clear hSw; go_simp; first | done | with_reducible rfl)
        try simp only [Act.put, List.setIfInBounds_toArray, List.set_cons_zero, List.set_cons_succ]
        refine wpAnyH_take (i := 21) (oi := { dst := some 78, op := Op.move (Operand.tmp 7), type := 48, pos := "outright.go:47", after := #[{ on := 19, ground := Ground.guard }], guard := some (19, false) }) (v := ?_) rfl (by kernel_rfl) (by kernel_rfl) (by kernel_rfl) (fun _ _ _ h => h) (Or.inl ⟨by rfl, ?_⟩) (by assumption) ?_
        rotate_left
        · (intro wq hSw; (try dsimp only at hSw); have K := T8.out.keep hSw; have c0 := K.t.d.c0; have c1 := K.t.d.c1; have c2 := K.t.d.c2; have c3 := K.t.d.c3; clear K; have X := X8.out.keep hSw; have x0 := X.c0; have x1 := X.c1; clear X; clear hSw; go_simp; first | done | with_reducible rfl)
        try simp only [Act.put, List.setIfInBounds_toArray, List.set_cons_zero, List.set_cons_succ]
        refine wpAnyH_ready (rs := [22]) (by kernel_rfl) (by simp) ?_
        refine AllReadyH.cons (o := { dst := some 79, op := Op.call { callee := Callee.value (Operand.func 71), args := #[Operand.tmp 77, Operand.tmp 78], argTypes := #[62, 48] }, type := 4, pos := "outright.go:47", after := #[{ on := 20, ground := Ground.data }, { on := 21, ground := Ground.data }, { on := 19, ground := Ground.chain }, { on := 19, ground := Ground.guard }], guard := some (19, false) }) rfl (fun K hK => ?_) AllReadyH.nil
        go_simp
        refine (Dhas_any _ L k s h _ xs _ (HR.out.keep (T8.out.keep hHeld).t.below) HL.out (RY.out.keep hHeld) OX.out).mono ?_
        rintro e v3 ⟨rfl, hq⟩
        have hq : Below v2.heap.size v2 v3 := ⟨hq.os, hq.tape, hq.output, hq.size, hq.block⟩
        rw [PB.out]
        have RU := RU.keep hq
        have hS := hHeld.trans (hq.mono hHeld.size)
        go_wp2_with fail
        refine hK.out _ _ hS (fun hHeld => ?_)
        clear hK K hHeld
        clear hq
        have hHeld := hS
        clear hS
        try simp only [Act.put, List.setIfInBounds_toArray, List.set_cons_zero, List.set_cons_succ]
        refine wpAnyH_take (i := 23) (oi := { dst := some 80, op := Op.unOp UnOp.not 4 (Operand.tmp 79), type := 4, pos := "outright.go:47", after := #[{ on := 22, ground := Ground.data }, { on := 19, ground := Ground.guard }], guard := some (19, false) }) (v := ?_) rfl (by kernel_rfl) (by kernel_rfl) (by kernel_rfl) (fun _ _ _ h => h) (Or.inl ⟨by rfl, ?_⟩) (by assumption) ?_
        rotate_left
        · (intro wq hSw; (try dsimp only at hSw); have K := T8.out.keep hSw; have c0 := K.t.d.c0; have c1 := K.t.d.c1; have c2 := K.t.d.c2; have c3 := K.t.d.c3; clear K; have X := X8.out.keep hSw; have x0 := X.c0; have x1 := X.c1; clear X; clear hSw; go_simp; first | done | with_reducible rfl)
        try simp only [Act.put, List.setIfInBounds_toArray, List.set_cons_zero, List.set_cons_succ]
        refine wpAnyH_take (i := 24) (oi := { dst := some 81, op := Op.pick (Operand.tmp 76) (Operand.const (Value.bool true)) (Operand.tmp 80), type := 4, pos := "outright.go:47", after := #[{ on := 19, ground := Ground.data }, { on := 23, ground := Ground.data }], guard := none }) (v := ?_) rfl (by kernel_rfl) (by kernel_rfl) (by kernel_rfl) (fun _ _ _ h => h) (Or.inl ⟨by rfl, ?_⟩) (by assumption) ?_
        rotate_left
        · (intro wq hSw; (try dsimp only at hSw); have K := T8.out.keep hSw; have c0 := K.t.d.c0; have c1 := K.t.d.c1; have c2 := K.t.d.c2; have c3 := K.t.d.c3; clear K; have X := X8.out.keep hSw; have x0 := X.c0; have x1 := X.c1; clear X; clear hSw; go_simp; first | done | with_reducible rfl)
        try simp only [Act.put, List.setIfInBounds_toArray, List.set_cons_zero, List.set_cons_succ]
        refine wpAnyH_take (i := 25) (oi := { dst := some 82, op := Op.move (Operand.tmp 81), type := 4, pos := "outright.go:47", after := #[{ on := 24, ground := Ground.data }, { on := 22, ground := Ground.chain }], guard := none }) (v := ?_) rfl (by kernel_rfl) (by kernel_rfl) (by kernel_rfl) (fun _ _ _ h => h) (Or.inl ⟨by rfl, ?_⟩) (by assumption) ?_
        rotate_left
        · (intro wq hSw; (try dsimp only at hSw); have K := T8.out.keep hSw; have c0 := K.t.d.c0; have c1 := K.t.d.c1; have c2 := K.t.d.c2; have c3 := K.t.d.c3; clear K; have X := X8.out.keep hSw; have x0 := X.c0; have x1 := X.c1; clear X; clear hSw; go_simp; first | done | with_reducible rfl)
        try simp only [Act.put, List.setIfInBounds_toArray, List.set_cons_zero, List.set_cons_succ]
        refine wpAnyH_take (i := 26) (oi := { dst := some 83, op := Op.move (Operand.tmp 5), type := 3, pos := "outright.go:47", after := #[{ on := 25, ground := Ground.guard }], guard := some (25, false) }) (v := ?_) rfl (by kernel_rfl) (by kernel_rfl) (by kernel_rfl) (fun _ _ _ h => h) (Or.inl ⟨by rfl, ?_⟩) (by assumption) ?_
        rotate_left
        · (intro wq hSw; (try dsimp only at hSw); have K := T8.out.keep hSw; have c0 := K.t.d.c0; have c1 := K.t.d.c1; have c2 := K.t.d.c2; have c3 := K.t.d.c3; clear K; have X := X8.out.keep hSw; have x0 := X.c0; have x1 := X.c1; clear X; clear hSw; go_simp; first | done | with_reducible rfl)
        try simp only [Act.put, List.setIfInBounds_toArray, List.set_cons_zero, List.set_cons_succ]
        refine wpAnyH_take (i := 27) (oi := { dst := some 84, op := Op.binOp BinOp.gtr 3 (Operand.tmp 83) (Operand.const (Value.int IntKind.i64 0)) 3, type := 4, pos := "outright.go:47", after := #[{ on := 26, ground := Ground.data }, { on := 25, ground := Ground.guard }], guard := some (25, false) }) (v := ?_) rfl (by kernel_rfl) (by kernel_rfl) (by kernel_rfl) (fun _ _ _ h => h) (Or.inl ⟨by rfl, ?_⟩) (by assumption) ?_
        rotate_left
        · (intro wq hSw; (try dsimp only at hSw); have K := T8.out.keep hSw; have c0 := K.t.d.c0; have c1 := K.t.d.c1; have c2 := K.t.d.c2; have c3 := K.t.d.c3; clear K; have X := X8.out.keep hSw; have x0 := X.c0; have x1 := X.c1; clear X; clear hSw; go_simp; first | done | with_reducible rfl)
        try simp only [Act.put, List.setIfInBounds_toArray, List.set_cons_zero, List.set_cons_succ]
        refine wpAnyH_take (i := 28) (oi := { dst := some 85, op := Op.move (Operand.tmp 84), type := 4, pos := "outright.go:47", after := #[{ on := 27, ground := Ground.data }, { on := 25, ground := Ground.chain }, { on := 25, ground := Ground.guard }], guard := some (25, false) }) (v := ?_) rfl (by kernel_rfl) (by kernel_rfl) (by kernel_rfl) (fun _ _ _ h => h) (Or.inl ⟨by rfl, ?_⟩) (by assumption) ?_
        rotate_left
        · (intro wq hSw; (try dsimp only at hSw); have K := T8.out.keep hSw; have c0 := K.t.d.c0; have c1 := K.t.d.c1; have c2 := K.t.d.c2; have c3 := K.t.d.c3; clear K; have X := X8.out.keep hSw; have x0 := X.c0; have x1 := X.c1; clear X; clear hSw; go_simp; first | done | with_reducible rfl)
        try simp only [Act.put, List.setIfInBounds_toArray, List.set_cons_zero, List.set_cons_succ]
        refine wpAnyH_take (i := 29) (oi := { dst := some 86, op := Op.move (Operand.tmp 3), type := 83, pos := "outright.go:47", after := #[{ on := 28, ground := Ground.guard }], guard := some (28, true) }) (v := undef) rfl (by kernel_rfl) (by kernel_rfl) (by kernel_rfl) (fun _ _ _ h => h) (Or.inr ⟨by rfl, rfl⟩) (by assumption) ?_
        try simp only [Act.put, List.setIfInBounds_toArray, List.set_cons_zero, List.set_cons_succ]
        refine wpAnyH_take (i := 30) (oi := { dst := some 87, op := Op.move (Operand.tmp 5), type := 3, pos := "outright.go:47", after := #[{ on := 28, ground := Ground.guard }], guard := some (28, true) }) (v := undef) rfl (by kernel_rfl) (by kernel_rfl) (by kernel_rfl) (fun _ _ _ h => h) (Or.inr ⟨by rfl, rfl⟩) (by assumption) ?_
        try simp only [Act.put, List.setIfInBounds_toArray, List.set_cons_zero, List.set_cons_succ]
        refine wpAnyH_take (i := 31) (oi := { dst := some 88, op := Op.binOp BinOp.sub 3 (Operand.tmp 87) (Operand.const (Value.int IntKind.i64 1)) 3, type := 3, pos := "outright.go:47", after := #[{ on := 30, ground := Ground.data }, { on := 28, ground := Ground.guard }], guard := some (28, true) }) (v := undef) rfl (by kernel_rfl) (by kernel_rfl) (by kernel_rfl) (fun _ _ _ h => h) (Or.inr ⟨by rfl, rfl⟩) (by assumption) ?_
        try simp only [Act.put, List.setIfInBounds_toArray, List.set_cons_zero, List.set_cons_succ]
        refine wpAnyH_take (i := 32) (oi := { dst := some 89, op := Op.indexAddr 83 (Operand.tmp 86) (Operand.tmp 88), type := 0, pos := "outright.go:47", after := #[{ on := 29, ground := Ground.data }, { on := 31, ground := Ground.data }, { on := 28, ground := Ground.guard }], guard := some (28, true) }) (v := undef) rfl (by kernel_rfl) (by kernel_rfl) (by kernel_rfl) (fun _ _ _ h => h) (Or.inr ⟨by rfl, rfl⟩) (by assumption) ?_
        try simp only [Act.put, List.setIfInBounds_toArray, List.set_cons_zero, List.set_cons_succ]
        refine wpAnyH_take (i := 33) (oi := { dst := some 90, op := Op.load 87 (Operand.tmp 89), type := 87, pos := "outright.go:47", after := #[{ on := 32, ground := Ground.data }, { on := 28, ground := Ground.guard }], guard := some (28, true) }) (v := undef) rfl (by kernel_rfl) (by kernel_rfl) (by kernel_rfl) (fun _ _ _ h => h) (Or.inr ⟨by rfl, rfl⟩) (by assumption) ?_
        try simp only [Act.put, List.setIfInBounds_toArray, List.set_cons_zero, List.set_cons_succ]
        refine wpAnyH_take (i := 34) (oi := { dst := some 91, op := Op.load 87 (Operand.tmp 6), type := 87, pos := "outright.go:47", after := #[{ on := 28, ground := Ground.guard }], guard := some (28, true) }) (v := undef) rfl (by kernel_rfl) (by kernel_rfl) (by kernel_rfl) (fun _ _ _ h => h) (Or.inr ⟨by rfl, rfl⟩) (by assumption) ?_
        try simp only [Act.put, List.setIfInBounds_toArray, List.set_cons_zero, List.set_cons_succ]
        refine wpAnyH_take (i := 35) (oi := { dst := some 92, op := Op.binOp BinOp.eql 87 (Operand.tmp 90) (Operand.tmp 91) 87, type := 4, pos := "outright.go:47", after := #[{ on := 33, ground := Ground.data }, { on := 34, ground := Ground.data }, { on := 28, ground := Ground.guard }], guard := some (28, true) }) (v := undef) rfl (by kernel_rfl) (by kernel_rfl) (by kernel_rfl) (fun _ _ _ h => h) (Or.inr ⟨by rfl, rfl⟩) (by assumption) ?_
        try simp only [Act.put, List.setIfInBounds_toArray, List.set_cons_zero, List.set_cons_succ]
        refine wpAnyH_take (i := 36) (oi := { dst := some 93, op := Op.pick (Operand.tmp 85) (Operand.tmp 92) (Operand.const (Value.bool false)), type := 4, pos := "outright.go:47", after := #[{ on := 28, ground := Ground.data }, { on := 35, ground := Ground.data }, { on := 25, ground := Ground.guard }], guard := some (25, false) }) (v := ?_) rfl (by kernel_rfl) (by kernel_rfl) (by kernel_rfl) (fun _ _ _ h => h) (Or.inl ⟨by rfl, ?_⟩) (by assumption) ?_
        rotate_left
        · (intro wq hSw; (try dsimp only at hSw); have K := T8.out.keep hSw; have c0 := K.t.d.c0; have c1 := K.t.d.c1; have c2 := K.t.d.c2; have c3 := K.t.d.c3; clear K; have X := X8.out.keep hSw; have x0 := X.c0; have x1 := X.c1; clear X; clear hSw; go_simp; first | done | with_reducible rfl)
        try simp only [Act.put, List.setIfInBounds_toArray, List.set_cons_zero, List.set_cons_succ]
        refine wpAnyH_take (i := 37) (oi := { dst := some 94, op := Op.pick (Operand.tmp 82) (Operand.const (Value.bool true)) (Operand.tmp 93), type := 4, pos := "outright.go:47", after := #[{ on := 25, ground := Ground.data }, { on := 36, ground := Ground.data }], guard := none }) (v := ?_) rfl (by kernel_rfl) (by kernel_rfl) (by kernel_rfl) (fun _ _ _ h => h) (Or.inl ⟨by rfl, ?_⟩) (by assumption) ?_
        rotate_left
        · (intro wq hSw; (try dsimp only at hSw); have K := T8.out.keep hSw; have c0 := K.t.d.c0; have c1 := K.t.d.c1; have c2 := K.t.d.c2; have c3 := K.t.d.c3; clear K; have X := X8.out.keep hSw; have x0 := X.c0; have x1 := X.c1; clear X; clear hSw; go_simp; first | done | with_reducible rfl)
        try simp only [Act.put, List.setIfInBounds_toArray, List.set_cons_zero, List.set_cons_succ]
        refine wpAnyH_done (by kernel_rfl) ?_ _
        have T9 := Lib.hid (T8.out.keep hHeld)
        clear hHeld RU T8 X8 RY
        go_wp2_with fail
        go_roundg (E.length - 0)
        case measure => exact KG.out
        case rel => exact ⟨1, rfl, ⟨by omega, by omega⟩, T9⟩
      · obtain ⟨i, hi⟩ : ∃ i, j = i + 1 := ⟨j - 1, by omega⟩
        obtain ⟨q, gq⟩ : ∃ q, E[i]? = some q := ⟨E[i]'(by omega), List.getElem?_eq_getElem _⟩
        have NE : Hid (eqB2 q.1 q.2 p.1 p.2 = false) := Lib.hid (by
          have := UP.out i p q (hi ▸ GP.out) gq
          unfold eqB2
          simp
          omega)
        have EP := eq_pair q.1 q.2 p.1 p.2
        rw [NE.out] at EP
        have jk : decide ((0 : Int) < j) = true := by simp; omega
        have kp : (0 : Int) < j := by omega
        have kp0 : 0 < j := by omega
        have kp1 : ¬ j = 0 := by omega
        have ji : 1 ≤ j := by omega
        have ji' : (1 : Int) ≤ j := by omega
        have iw : IntKind.i64.wrap ((j : Int) - 1) = (j : Int) - 1 := IntWalk.i64_in _ (by omega)
        have jt : ((j : Int) - 1).toNat = i := by omega
        have jb : (0 : Int) ≤ (j : Int) - 1 ∧ (j : Int) - 1 < E.length := by omega
        have jb1 : (j : Int) - 1 < E.length := by omega
        have Q0 := Lib.hid (T8.out.l.at' gq)
        clear gq jz hi
        refine wp_region_held_drew (S := (fun w' => Below v9.heap.size v9 w')) (by kernel_rfl) (to_drew (Below.refl _ _)) (fun hHeld => ?_)
        obtain ⟨v0, hv0⟩ : ∃ v0, v0 = v9.drew := ⟨_, rfl⟩
        rw [← hv0] at hHeld ⊢
        clear hv0

        refine wpAnyH_take (i := 0) (oi := { dst := some 57, op := Op.move (Operand.tmp 8), type := 24, pos := "outright.go:47", after := #[], guard := none }) (v := ?_) rfl (by kernel_rfl) (by kernel_rfl) (by kernel_rfl) (fun _ _ _ h => h) (Or.inl ⟨by rfl, ?_⟩) (by assumption) ?_
        rotate_left
        · (intro wq hSw; (try dsimp only at hSw); have K := T8.out.keep hSw; have c0 := K.t.d.c0; have c1 := K.t.d.c1; have c2 := K.t.d.c2; have c3 := K.t.d.c3; clear K; have X := X8.out.keep hSw; have x0 := X.c0; have x1 := X.c1; clear X; have q0 := (hSw.cell (p := ⟨lb, lo + i * 2, none⟩) LZ8.out).trans Q0.out.1; have q1 := (hSw.cell (p := ⟨lb, lo + i * 2 + 1, none⟩) LZ8.out).trans Q0.out.2; clear hSw; go_simp; first | done | with_reducible rfl)
        try simp only [Act.put, List.setIfInBounds_toArray, List.set_cons_zero, List.set_cons_succ]
        refine wpAnyH_take (i := 1) (oi := { dst := some 58, op := Op.binOp BinOp.neq 24 (Operand.tmp 57) (Operand.const (Value.int IntKind.i64 0)) 24, type := 4, pos := "outright.go:47", after := #[{ on := 0, ground := Ground.data }], guard := none }) (v := ?_) rfl (by kernel_rfl) (by kernel_rfl) (by kernel_rfl) (fun _ _ _ h => h) (Or.inl ⟨by rfl, ?_⟩) (by assumption) ?_
        rotate_left
        · (intro wq hSw; (try dsimp only at hSw); have K := T8.out.keep hSw; have c0 := K.t.d.c0; have c1 := K.t.d.c1; have c2 := K.t.d.c2; have c3 := K.t.d.c3; clear K; have X := X8.out.keep hSw; have x0 := X.c0; have x1 := X.c1; clear X; have q0 := (hSw.cell (p := ⟨lb, lo + i * 2, none⟩) LZ8.out).trans Q0.out.1; have q1 := (hSw.cell (p := ⟨lb, lo + i * 2 + 1, none⟩) LZ8.out).trans Q0.out.2; clear hSw; go_simp; first | done | with_reducible rfl)
        try simp only [Act.put, List.setIfInBounds_toArray, List.set_cons_zero, List.set_cons_succ]
        refine wpAnyH_take (i := 2) (oi := { dst := some 59, op := Op.move (Operand.tmp 58), type := 4, pos := "outright.go:47", after := #[{ on := 1, ground := Ground.data }], guard := none }) (v := ?_) rfl (by kernel_rfl) (by kernel_rfl) (by kernel_rfl) (fun _ _ _ h => h) (Or.inl ⟨by rfl, ?_⟩) (by assumption) ?_
        rotate_left
        · (intro wq hSw; (try dsimp only at hSw); have K := T8.out.keep hSw; have c0 := K.t.d.c0; have c1 := K.t.d.c1; have c2 := K.t.d.c2; have c3 := K.t.d.c3; clear K; have X := X8.out.keep hSw; have x0 := X.c0; have x1 := X.c1; clear X; have q0 := (hSw.cell (p := ⟨lb, lo + i * 2, none⟩) LZ8.out).trans Q0.out.1; have q1 := (hSw.cell (p := ⟨lb, lo + i * 2 + 1, none⟩) LZ8.out).trans Q0.out.2; clear hSw; go_simp; first | done | with_reducible rfl)
        try simp only [Act.put, List.setIfInBounds_toArray, List.set_cons_zero, List.set_cons_succ]
        refine wpAnyH_take (i := 3) (oi := { dst := some 60, op := Op.move (Operand.tmp 7), type := 48, pos := "outright.go:47", after := #[{ on := 2, ground := Ground.guard }], guard := some (2, false) }) (v := ?_) rfl (by kernel_rfl) (by kernel_rfl) (by kernel_rfl) (fun _ _ _ h => h) (Or.inl ⟨by rfl, ?_⟩) (by assumption) ?_
        rotate_left
        · (intro wq hSw; (try dsimp only at hSw); have K := T8.out.keep hSw; have c0 := K.t.d.c0; have c1 := K.t.d.c1; have c2 := K.t.d.c2; have c3 := K.t.d.c3; clear K; have X := X8.out.keep hSw; have x0 := X.c0; have x1 := X.c1; clear X; have q0 := (hSw.cell (p := ⟨lb, lo + i * 2, none⟩) LZ8.out).trans Q0.out.1; have q1 := (hSw.cell (p := ⟨lb, lo + i * 2 + 1, none⟩) LZ8.out).trans Q0.out.2; clear hSw; go_simp; first | done | with_reducible rfl)
        try simp only [Act.put, List.setIfInBounds_toArray, List.set_cons_zero, List.set_cons_succ]
        refine wpAnyH_take (i := 4) (oi := { dst := some 61, op := Op.load 62 (Operand.tmp 1), type := 62, pos := "outright.go:47", after := #[{ on := 2, ground := Ground.guard }], guard := some (2, false) }) (v := ?_) rfl (by kernel_rfl) (by kernel_rfl) (by kernel_rfl) (fun _ _ _ h => h) (Or.inl ⟨by rfl, ?_⟩) (by assumption) ?_
        rotate_left
        · (intro wq hSw; (try dsimp only at hSw); have K := T8.out.keep hSw; have c0 := K.t.d.c0; have c1 := K.t.d.c1; have c2 := K.t.d.c2; have c3 := K.t.d.c3; clear K; have X := X8.out.keep hSw; have x0 := X.c0; have x1 := X.c1; clear X; have q0 := (hSw.cell (p := ⟨lb, lo + i * 2, none⟩) LZ8.out).trans Q0.out.1; have q1 := (hSw.cell (p := ⟨lb, lo + i * 2 + 1, none⟩) LZ8.out).trans Q0.out.2; clear hSw; go_simp; first | done | with_reducible rfl)
        try simp only [Act.put, List.setIfInBounds_toArray, List.set_cons_zero, List.set_cons_succ]
        refine wpAnyH_take (i := 5) (oi := { dst := some 62, op := Op.load 87 (Operand.tmp 6), type := 87, pos := "outright.go:47", after := #[{ on := 2, ground := Ground.guard }], guard := some (2, false) }) (v := ?_) rfl (by kernel_rfl) (by kernel_rfl) (by kernel_rfl) (fun _ _ _ h => h) (Or.inl ⟨by rfl, ?_⟩) (by assumption) ?_
        rotate_left
        · (intro wq hSw; (try dsimp only at hSw); have K := T8.out.keep hSw; have c0 := K.t.d.c0; have c1 := K.t.d.c1; have c2 := K.t.d.c2; have c3 := K.t.d.c3; clear K; have X := X8.out.keep hSw; have x0 := X.c0; have x1 := X.c1; clear X; have q0 := (hSw.cell (p := ⟨lb, lo + i * 2, none⟩) LZ8.out).trans Q0.out.1; have q1 := (hSw.cell (p := ⟨lb, lo + i * 2 + 1, none⟩) LZ8.out).trans Q0.out.2; clear hSw; go_simp; first | done | with_reducible rfl)
        try simp only [Act.put, List.setIfInBounds_toArray, List.set_cons_zero, List.set_cons_succ]
        refine wpAnyH_ready (rs := [6]) (by kernel_rfl) (by simp) ?_
        refine AllReadyH.cons (o := { dst := some 63, op := Op.call { callee := Callee.value (Operand.func 96), args := #[Operand.tmp 61, Operand.tmp 62], argTypes := #[62, 87] }, type := 48, pos := "outright.go:47", after := #[{ on := 4, ground := Ground.data }, { on := 5, ground := Ground.data }, { on := 2, ground := Ground.chain }, { on := 2, ground := Ground.guard }], guard := some (2, false) }) rfl (fun K hK => ?_) AllReadyH.nil
        go_simp
        refine (index_any _ L k s h p.1 p.2 _ (HR.out.keep (T8.out.keep hHeld).t.below) rk.out).mono ?_
        rintro e v1 ⟨u, rfl, hU, hq⟩
        have hq : Below v0.heap.size v0 v1 := ⟨hq.os, hq.tape, hq.output, hq.size, hq.block⟩
        have RU := hU.out
        rw [← HX.out] at RU
        obtain ⟨ou, cu, rfl, qu⟩ := RU
        have RU : Ri v1 (.slice ou xs.length cu) xs := ⟨ou, cu, rfl, qu⟩
        clear qu hU
        have hS := hHeld.trans (hq.mono hHeld.size)
        go_wp2_with fail
        refine hK.out _ _ hS (fun hHeld => ?_)
        clear hK K hHeld
        clear hq
        have hHeld := hS
        clear hS
        try simp only [Act.put, List.setIfInBounds_toArray, List.set_cons_zero, List.set_cons_succ]
        refine wpAnyH_ready (rs := [7]) (by kernel_rfl) (by simp) ?_
        refine AllReadyH.cons (o := { dst := some 64, op := Op.call { callee := Callee.value (Operand.func 55), args := #[Operand.tmp 60, Operand.tmp 63], argTypes := #[48, 48] }, type := 4, pos := "outright.go:47", after := #[{ on := 3, ground := Ground.data }, { on := 6, ground := Ground.data }, { on := 6, ground := Ground.chain }, { on := 2, ground := Ground.guard }], guard := some (2, false) }) rfl (fun K hK => ?_) AllReadyH.nil
        go_simp
        refine (equalRi_any _ _ xs _ (RY.out.keep hHeld) RU (by have := LX.out; have := rk.out; omega)).mono ?_
        rintro e v2 ⟨rfl, hq⟩
        have hq : Below v1.heap.size v1 v2 := ⟨hq.os, hq.tape, hq.output, hq.size, hq.block⟩
        have RU := RU.keep hq
        have hS := hHeld.trans (hq.mono hHeld.size)
        go_wp2_with fail
        refine hK.out _ _ hS (fun hHeld => ?_)
        clear hK K hHeld
        clear hq
        have hHeld := hS
        clear hS
        try simp only [Act.put, List.setIfInBounds_toArray, List.set_cons_zero, List.set_cons_succ]
        refine wpAnyH_take (i := 8) (oi := { dst := some 65, op := Op.unOp UnOp.not 4 (Operand.tmp 64), type := 4, pos := "outright.go:47", after := #[{ on := 7, ground := Ground.data }, { on := 2, ground := Ground.guard }], guard := some (2, false) }) (v := ?_) rfl (by kernel_rfl) (by kernel_rfl) (by kernel_rfl) (fun _ _ _ h => h) (Or.inl ⟨by rfl, ?_⟩) (by assumption) ?_
        rotate_left
        · (intro wq hSw; (try dsimp only at hSw); have K := T8.out.keep hSw; have c0 := K.t.d.c0; have c1 := K.t.d.c1; have c2 := K.t.d.c2; have c3 := K.t.d.c3; clear K; have X := X8.out.keep hSw; have x0 := X.c0; have x1 := X.c1; clear X; have q0 := (hSw.cell (p := ⟨lb, lo + i * 2, none⟩) LZ8.out).trans Q0.out.1; have q1 := (hSw.cell (p := ⟨lb, lo + i * 2 + 1, none⟩) LZ8.out).trans Q0.out.2; clear hSw; go_simp; first | done | with_reducible rfl)
        try simp only [Act.put, List.setIfInBounds_toArray, List.set_cons_zero, List.set_cons_succ]
        refine wpAnyH_take (i := 9) (oi := { dst := some 66, op := Op.pick (Operand.tmp 59) (Operand.const (Value.bool true)) (Operand.tmp 65), type := 4, pos := "outright.go:47", after := #[{ on := 2, ground := Ground.data }, { on := 8, ground := Ground.data }], guard := none }) (v := ?_) rfl (by kernel_rfl) (by kernel_rfl) (by kernel_rfl) (fun _ _ _ h => h) (Or.inl ⟨by rfl, ?_⟩) (by assumption) ?_
        rotate_left
        · (intro wq hSw; (try dsimp only at hSw); have K := T8.out.keep hSw; have c0 := K.t.d.c0; have c1 := K.t.d.c1; have c2 := K.t.d.c2; have c3 := K.t.d.c3; clear K; have X := X8.out.keep hSw; have x0 := X.c0; have x1 := X.c1; clear X; have q0 := (hSw.cell (p := ⟨lb, lo + i * 2, none⟩) LZ8.out).trans Q0.out.1; have q1 := (hSw.cell (p := ⟨lb, lo + i * 2 + 1, none⟩) LZ8.out).trans Q0.out.2; clear hSw; go_simp; first | done | with_reducible rfl)
        try simp only [Act.put, List.setIfInBounds_toArray, List.set_cons_zero, List.set_cons_succ]
        refine wpAnyH_take (i := 10) (oi := { dst := some 67, op := Op.move (Operand.tmp 66), type := 4, pos := "outright.go:47", after := #[{ on := 9, ground := Ground.data }, { on := 7, ground := Ground.chain }], guard := none }) (v := ?_) rfl (by kernel_rfl) (by kernel_rfl) (by kernel_rfl) (fun _ _ _ h => h) (Or.inl ⟨by rfl, ?_⟩) (by assumption) ?_
        rotate_left
        · (intro wq hSw; (try dsimp only at hSw); have K := T8.out.keep hSw; have c0 := K.t.d.c0; have c1 := K.t.d.c1; have c2 := K.t.d.c2; have c3 := K.t.d.c3; clear K; have X := X8.out.keep hSw; have x0 := X.c0; have x1 := X.c1; clear X; have q0 := (hSw.cell (p := ⟨lb, lo + i * 2, none⟩) LZ8.out).trans Q0.out.1; have q1 := (hSw.cell (p := ⟨lb, lo + i * 2 + 1, none⟩) LZ8.out).trans Q0.out.2; clear hSw; go_simp; first | done | with_reducible rfl)
        try simp only [Act.put, List.setIfInBounds_toArray, List.set_cons_zero, List.set_cons_succ]
        refine wpAnyH_take (i := 11) (oi := { dst := some 68, op := Op.move (Operand.tmp 10), type := 4, pos := "outright.go:47", after := #[{ on := 10, ground := Ground.guard }], guard := some (10, false) }) (v := ?_) rfl (by kernel_rfl) (by kernel_rfl) (by kernel_rfl) (fun _ _ _ h => h) (Or.inl ⟨by rfl, ?_⟩) (by assumption) ?_
        rotate_left
        · (intro wq hSw; (try dsimp only at hSw); have K := T8.out.keep hSw; have c0 := K.t.d.c0; have c1 := K.t.d.c1; have c2 := K.t.d.c2; have c3 := K.t.d.c3; clear K; have X := X8.out.keep hSw; have x0 := X.c0; have x1 := X.c1; clear X; have q0 := (hSw.cell (p := ⟨lb, lo + i * 2, none⟩) LZ8.out).trans Q0.out.1; have q1 := (hSw.cell (p := ⟨lb, lo + i * 2 + 1, none⟩) LZ8.out).trans Q0.out.2; clear hSw; go_simp; first | done | with_reducible rfl)
        try simp only [Act.put, List.setIfInBounds_toArray, List.set_cons_zero, List.set_cons_succ]
        refine wpAnyH_take (i := 12) (oi := { dst := some 69, op := Op.unOp UnOp.not 4 (Operand.tmp 68), type := 4, pos := "outright.go:47", after := #[{ on := 11, ground := Ground.data }, { on := 10, ground := Ground.guard }], guard := some (10, false) }) (v := ?_) rfl (by kernel_rfl) (by kernel_rfl) (by kernel_rfl) (fun _ _ _ h => h) (Or.inl ⟨by rfl, ?_⟩) (by assumption) ?_
        rotate_left
        · (intro wq hSw; (try dsimp only at hSw); have K := T8.out.keep hSw; have c0 := K.t.d.c0; have c1 := K.t.d.c1; have c2 := K.t.d.c2; have c3 := K.t.d.c3; clear K; have X := X8.out.keep hSw; have x0 := X.c0; have x1 := X.c1; clear X; have q0 := (hSw.cell (p := ⟨lb, lo + i * 2, none⟩) LZ8.out).trans Q0.out.1; have q1 := (hSw.cell (p := ⟨lb, lo + i * 2 + 1, none⟩) LZ8.out).trans Q0.out.2; clear hSw; go_simp; first | done | with_reducible rfl)
        try simp only [Act.put, List.setIfInBounds_toArray, List.set_cons_zero, List.set_cons_succ]
        refine wpAnyH_take (i := 13) (oi := { dst := some 70, op := Op.pick (Operand.tmp 67) (Operand.const (Value.bool true)) (Operand.tmp 69), type := 4, pos := "outright.go:47", after := #[{ on := 10, ground := Ground.data }, { on := 12, ground := Ground.data }], guard := none }) (v := ?_) rfl (by kernel_rfl) (by kernel_rfl) (by kernel_rfl) (fun _ _ _ h => h) (Or.inl ⟨by rfl, ?_⟩) (by assumption) ?_
        rotate_left
        · (intro wq hSw; (try dsimp only at hSw); have K := T8.out.keep hSw; have c0 := K.t.d.c0; have c1 := K.t.d.c1; have c2 := K.t.d.c2; have c3 := K.t.d.c3; clear K; have X := X8.out.keep hSw; have x0 := X.c0; have x1 := X.c1; clear X; have q0 := (hSw.cell (p := ⟨lb, lo + i * 2, none⟩) LZ8.out).trans Q0.out.1; have q1 := (hSw.cell (p := ⟨lb, lo + i * 2 + 1, none⟩) LZ8.out).trans Q0.out.2; clear hSw; go_simp; first | done | with_reducible rfl)
        try simp only [Act.put, List.setIfInBounds_toArray, List.set_cons_zero, List.set_cons_succ]
        refine wpAnyH_take (i := 14) (oi := { dst := some 71, op := Op.move (Operand.tmp 70), type := 4, pos := "outright.go:47", after := #[{ on := 13, ground := Ground.data }, { on := 10, ground := Ground.chain }], guard := none }) (v := ?_) rfl (by kernel_rfl) (by kernel_rfl) (by kernel_rfl) (fun _ _ _ h => h) (Or.inl ⟨by rfl, ?_⟩) (by assumption) ?_
        rotate_left
        · (intro wq hSw; (try dsimp only at hSw); have K := T8.out.keep hSw; have c0 := K.t.d.c0; have c1 := K.t.d.c1; have c2 := K.t.d.c2; have c3 := K.t.d.c3; clear K; have X := X8.out.keep hSw; have x0 := X.c0; have x1 := X.c1; clear X; have q0 := (hSw.cell (p := ⟨lb, lo + i * 2, none⟩) LZ8.out).trans Q0.out.1; have q1 := (hSw.cell (p := ⟨lb, lo + i * 2 + 1, none⟩) LZ8.out).trans Q0.out.2; clear hSw; go_simp; first | done | with_reducible rfl)
        try simp only [Act.put, List.setIfInBounds_toArray, List.set_cons_zero, List.set_cons_succ]
        refine wpAnyH_take (i := 15) (oi := { dst := some 72, op := Op.move (Operand.tmp 9), type := 3, pos := "outright.go:47", after := #[{ on := 14, ground := Ground.guard }], guard := some (14, false) }) (v := ?_) rfl (by kernel_rfl) (by kernel_rfl) (by kernel_rfl) (fun _ _ _ h => h) (Or.inl ⟨by rfl, ?_⟩) (by assumption) ?_
        rotate_left
        · (intro wq hSw; (try dsimp only at hSw); have K := T8.out.keep hSw; have c0 := K.t.d.c0; have c1 := K.t.d.c1; have c2 := K.t.d.c2; have c3 := K.t.d.c3; clear K; have X := X8.out.keep hSw; have x0 := X.c0; have x1 := X.c1; clear X; have q0 := (hSw.cell (p := ⟨lb, lo + i * 2, none⟩) LZ8.out).trans Q0.out.1; have q1 := (hSw.cell (p := ⟨lb, lo + i * 2 + 1, none⟩) LZ8.out).trans Q0.out.2; clear hSw; go_simp; first | done | with_reducible rfl)
        try simp only [Act.put, List.setIfInBounds_toArray, List.set_cons_zero, List.set_cons_succ]
        refine wpAnyH_take (i := 16) (oi := { dst := some 73, op := Op.move (Operand.tmp 5), type := 3, pos := "outright.go:47", after := #[{ on := 14, ground := Ground.guard }], guard := some (14, false) }) (v := ?_) rfl (by kernel_rfl) (by kernel_rfl) (by kernel_rfl) (fun _ _ _ h => h) (Or.inl ⟨by rfl, ?_⟩) (by assumption) ?_
        rotate_left
        · (intro wq hSw; (try dsimp only at hSw); have K := T8.out.keep hSw; have c0 := K.t.d.c0; have c1 := K.t.d.c1; have c2 := K.t.d.c2; have c3 := K.t.d.c3; clear K; have X := X8.out.keep hSw; have x0 := X.c0; have x1 := X.c1; clear X; have q0 := (hSw.cell (p := ⟨lb, lo + i * 2, none⟩) LZ8.out).trans Q0.out.1; have q1 := (hSw.cell (p := ⟨lb, lo + i * 2 + 1, none⟩) LZ8.out).trans Q0.out.2; clear hSw; go_simp; first | done | with_reducible rfl)
        try simp only [Act.put, List.setIfInBounds_toArray, List.set_cons_zero, List.set_cons_succ]
        refine wpAnyH_take (i := 17) (oi := { dst := some 74, op := Op.binOp BinOp.neq 3 (Operand.tmp 72) (Operand.tmp 73) 3, type := 4, pos := "outright.go:47", after := #[{ on := 15, ground := Ground.data }, { on := 16, ground := Ground.data }, { on := 14, ground := Ground.guard }], guard := some (14, false) }) (v := ?_) rfl (by kernel_rfl) (by kernel_rfl) (by kernel_rfl) (fun _ _ _ h => h) (Or.inl ⟨by rfl, ?_⟩) (by assumption) ?_
        rotate_left
        · (intro wq hSw; (try dsimp only at hSw); have K := T8.out.keep hSw; have c0 := K.t.d.c0; have c1 := K.t.d.c1; have c2 := K.t.d.c2; have c3 := K.t.d.c3; clear K; have X := X8.out.keep hSw; have x0 := X.c0; have x1 := X.c1; clear X; have q0 := (hSw.cell (p := ⟨lb, lo + i * 2, none⟩) LZ8.out).trans Q0.out.1; have q1 := (hSw.cell (p := ⟨lb, lo + i * 2 + 1, none⟩) LZ8.out).trans Q0.out.2; clear hSw; go_simp; first | done | with_reducible rfl)
        try simp only [Act.put, List.setIfInBounds_toArray, List.set_cons_zero, List.set_cons_succ]
        refine wpAnyH_take (i := 18) (oi := { dst := some 75, op := Op.pick (Operand.tmp 71) (Operand.const (Value.bool true)) (Operand.tmp 74), type := 4, pos := "outright.go:47", after := #[{ on := 14, ground := Ground.data }, { on := 17, ground := Ground.data }], guard := none }) (v := ?_) rfl (by kernel_rfl) (by kernel_rfl) (by kernel_rfl) (fun _ _ _ h => h) (Or.inl ⟨by rfl, ?_⟩) (by assumption) ?_
        rotate_left
        · (intro wq hSw; (try dsimp only at hSw); have K := T8.out.keep hSw; have c0 := K.t.d.c0; have c1 := K.t.d.c1; have c2 := K.t.d.c2; have c3 := K.t.d.c3; clear K; have X := X8.out.keep hSw; have x0 := X.c0; have x1 := X.c1; clear X; have q0 := (hSw.cell (p := ⟨lb, lo + i * 2, none⟩) LZ8.out).trans Q0.out.1; have q1 := (hSw.cell (p := ⟨lb, lo + i * 2 + 1, none⟩) LZ8.out).trans Q0.out.2; clear hSw; go_simp; first | done | with_reducible rfl)
        try simp only [Act.put, List.setIfInBounds_toArray, List.set_cons_zero, List.set_cons_succ]
        refine wpAnyH_take (i := 19) (oi := { dst := some 76, op := Op.move (Operand.tmp 75), type := 4, pos := "outright.go:47", after := #[{ on := 18, ground := Ground.data }, { on := 14, ground := Ground.chain }], guard := none }) (v := ?_) rfl (by kernel_rfl) (by kernel_rfl) (by kernel_rfl) (fun _ _ _ h => h) (Or.inl ⟨by rfl, ?_⟩) (by assumption) ?_
        rotate_left
        · (intro wq hSw; (try dsimp only at hSw); have K := T8.out.keep hSw; have c0 := K.t.d.c0; have c1 := K.t.d.c1; have c2 := K.t.d.c2; have c3 := K.t.d.c3; clear K; have X := X8.out.keep hSw; have x0 := X.c0; have x1 := X.c1; clear X; have q0 := (hSw.cell (p := ⟨lb, lo + i * 2, none⟩) LZ8.out).trans Q0.out.1; have q1 := (hSw.cell (p := ⟨lb, lo + i * 2 + 1, none⟩) LZ8.out).trans Q0.out.2; clear hSw; go_simp; first | done | with_reducible rfl)
        try simp only [Act.put, List.setIfInBounds_toArray, List.set_cons_zero, List.set_cons_succ]
        refine wpAnyH_take (i := 20) (oi := { dst := some 77, op := Op.load 62 (Operand.tmp 1), type := 62, pos := "outright.go:47", after := #[{ on := 19, ground := Ground.guard }], guard := some (19, false) }) (v := ?_) rfl (by kernel_rfl) (by kernel_rfl) (by kernel_rfl) (fun _ _ _ h => h) (Or.inl ⟨by rfl, ?_⟩) (by assumption) ?_
        rotate_left
        · (intro wq hSw; (try dsimp only at hSw); have K := T8.out.keep hSw; have c0 := K.t.d.c0; have c1 := K.t.d.c1; have c2 := K.t.d.c2; have c3 := K.t.d.c3; clear K; have X := X8.out.keep hSw; have x0 := X.c0; have x1 := X.c1; clear X; have q0 := (hSw.cell (p := ⟨lb, lo + i * 2, none⟩) LZ8.out).trans Q0.out.1; have q1 := (hSw.cell (p := ⟨lb, lo + i * 2 + 1, none⟩) LZ8.out).trans Q0.out.2; clear hSw; go_simp; first | done | with_reducible rfl)
        try simp only [Act.put, List.setIfInBounds_toArray, List.set_cons_zero, List.set_cons_succ]
        refine wpAnyH_take (i := 21) (oi := { dst := some 78, op := Op.move (Operand.tmp 7), type := 48, pos := "outright.go:47", after := #[{ on := 19, ground := Ground.guard }], guard := some (19, false) }) (v := ?_) rfl (by kernel_rfl) (by kernel_rfl) (by kernel_rfl) (fun _ _ _ h => h) (Or.inl ⟨by rfl, ?_⟩) (by assumption) ?_
        rotate_left
        · (intro wq hSw; (try dsimp only at hSw); have K := T8.out.keep hSw; have c0 := K.t.d.c0; have c1 := K.t.d.c1; have c2 := K.t.d.c2; have c3 := K.t.d.c3; clear K; have X := X8.out.keep hSw; have x0 := X.c0; have x1 := X.c1; clear X; have q0 := (hSw.cell (p := ⟨lb, lo + i * 2, none⟩) LZ8.out).trans Q0.out.1; have q1 := (hSw.cell (p := ⟨lb, lo + i * 2 + 1, none⟩) LZ8.out).trans Q0.out.2; clear hSw; go_simp; first | done | with_reducible rfl)
        try simp only [Act.put, List.setIfInBounds_toArray, List.set_cons_zero, List.set_cons_succ]
        refine wpAnyH_ready (rs := [22]) (by kernel_rfl) (by simp) ?_
        refine AllReadyH.cons (o := { dst := some 79, op := Op.call { callee := Callee.value (Operand.func 71), args := #[Operand.tmp 77, Operand.tmp 78], argTypes := #[62, 48] }, type := 4, pos := "outright.go:47", after := #[{ on := 20, ground := Ground.data }, { on := 21, ground := Ground.data }, { on := 19, ground := Ground.chain }, { on := 19, ground := Ground.guard }], guard := some (19, false) }) rfl (fun K hK => ?_) AllReadyH.nil
        go_simp
        refine (Dhas_any _ L k s h _ xs _ (HR.out.keep (T8.out.keep hHeld).t.below) HL.out (RY.out.keep hHeld) OX.out).mono ?_
        rintro e v3 ⟨rfl, hq⟩
        have hq : Below v2.heap.size v2 v3 := ⟨hq.os, hq.tape, hq.output, hq.size, hq.block⟩
        rw [PB.out]
        have RU := RU.keep hq
        have hS := hHeld.trans (hq.mono hHeld.size)
        go_wp2_with fail
        refine hK.out _ _ hS (fun hHeld => ?_)
        clear hK K hHeld
        clear hq
        have hHeld := hS
        clear hS
        try simp only [Act.put, List.setIfInBounds_toArray, List.set_cons_zero, List.set_cons_succ]
        refine wpAnyH_take (i := 23) (oi := { dst := some 80, op := Op.unOp UnOp.not 4 (Operand.tmp 79), type := 4, pos := "outright.go:47", after := #[{ on := 22, ground := Ground.data }, { on := 19, ground := Ground.guard }], guard := some (19, false) }) (v := ?_) rfl (by kernel_rfl) (by kernel_rfl) (by kernel_rfl) (fun _ _ _ h => h) (Or.inl ⟨by rfl, ?_⟩) (by assumption) ?_
        rotate_left
        · (intro wq hSw; (try dsimp only at hSw); have K := T8.out.keep hSw; have c0 := K.t.d.c0; have c1 := K.t.d.c1; have c2 := K.t.d.c2; have c3 := K.t.d.c3; clear K; have X := X8.out.keep hSw; have x0 := X.c0; have x1 := X.c1; clear X; have q0 := (hSw.cell (p := ⟨lb, lo + i * 2, none⟩) LZ8.out).trans Q0.out.1; have q1 := (hSw.cell (p := ⟨lb, lo + i * 2 + 1, none⟩) LZ8.out).trans Q0.out.2; clear hSw; go_simp; first | done | with_reducible rfl)
        try simp only [Act.put, List.setIfInBounds_toArray, List.set_cons_zero, List.set_cons_succ]
        refine wpAnyH_take (i := 24) (oi := { dst := some 81, op := Op.pick (Operand.tmp 76) (Operand.const (Value.bool true)) (Operand.tmp 80), type := 4, pos := "outright.go:47", after := #[{ on := 19, ground := Ground.data }, { on := 23, ground := Ground.data }], guard := none }) (v := ?_) rfl (by kernel_rfl) (by kernel_rfl) (by kernel_rfl) (fun _ _ _ h => h) (Or.inl ⟨by rfl, ?_⟩) (by assumption) ?_
        rotate_left
        · (intro wq hSw; (try dsimp only at hSw); have K := T8.out.keep hSw; have c0 := K.t.d.c0; have c1 := K.t.d.c1; have c2 := K.t.d.c2; have c3 := K.t.d.c3; clear K; have X := X8.out.keep hSw; have x0 := X.c0; have x1 := X.c1; clear X; have q0 := (hSw.cell (p := ⟨lb, lo + i * 2, none⟩) LZ8.out).trans Q0.out.1; have q1 := (hSw.cell (p := ⟨lb, lo + i * 2 + 1, none⟩) LZ8.out).trans Q0.out.2; clear hSw; go_simp; first | done | with_reducible rfl)
        try simp only [Act.put, List.setIfInBounds_toArray, List.set_cons_zero, List.set_cons_succ]
        refine wpAnyH_take (i := 25) (oi := { dst := some 82, op := Op.move (Operand.tmp 81), type := 4, pos := "outright.go:47", after := #[{ on := 24, ground := Ground.data }, { on := 22, ground := Ground.chain }], guard := none }) (v := ?_) rfl (by kernel_rfl) (by kernel_rfl) (by kernel_rfl) (fun _ _ _ h => h) (Or.inl ⟨by rfl, ?_⟩) (by assumption) ?_
        rotate_left
        · (intro wq hSw; (try dsimp only at hSw); have K := T8.out.keep hSw; have c0 := K.t.d.c0; have c1 := K.t.d.c1; have c2 := K.t.d.c2; have c3 := K.t.d.c3; clear K; have X := X8.out.keep hSw; have x0 := X.c0; have x1 := X.c1; clear X; have q0 := (hSw.cell (p := ⟨lb, lo + i * 2, none⟩) LZ8.out).trans Q0.out.1; have q1 := (hSw.cell (p := ⟨lb, lo + i * 2 + 1, none⟩) LZ8.out).trans Q0.out.2; clear hSw; go_simp; first | done | with_reducible rfl)
        try simp only [Act.put, List.setIfInBounds_toArray, List.set_cons_zero, List.set_cons_succ]
        refine wpAnyH_take (i := 26) (oi := { dst := some 83, op := Op.move (Operand.tmp 5), type := 3, pos := "outright.go:47", after := #[{ on := 25, ground := Ground.guard }], guard := some (25, false) }) (v := ?_) rfl (by kernel_rfl) (by kernel_rfl) (by kernel_rfl) (fun _ _ _ h => h) (Or.inl ⟨by rfl, ?_⟩) (by assumption) ?_
        rotate_left
        · (intro wq hSw; (try dsimp only at hSw); have K := T8.out.keep hSw; have c0 := K.t.d.c0; have c1 := K.t.d.c1; have c2 := K.t.d.c2; have c3 := K.t.d.c3; clear K; have X := X8.out.keep hSw; have x0 := X.c0; have x1 := X.c1; clear X; have q0 := (hSw.cell (p := ⟨lb, lo + i * 2, none⟩) LZ8.out).trans Q0.out.1; have q1 := (hSw.cell (p := ⟨lb, lo + i * 2 + 1, none⟩) LZ8.out).trans Q0.out.2; clear hSw; go_simp; first | done | with_reducible rfl)
        try simp only [Act.put, List.setIfInBounds_toArray, List.set_cons_zero, List.set_cons_succ]
        refine wpAnyH_take (i := 27) (oi := { dst := some 84, op := Op.binOp BinOp.gtr 3 (Operand.tmp 83) (Operand.const (Value.int IntKind.i64 0)) 3, type := 4, pos := "outright.go:47", after := #[{ on := 26, ground := Ground.data }, { on := 25, ground := Ground.guard }], guard := some (25, false) }) (v := ?_) rfl (by kernel_rfl) (by kernel_rfl) (by kernel_rfl) (fun _ _ _ h => h) (Or.inl ⟨by rfl, ?_⟩) (by assumption) ?_
        rotate_left
        · (intro wq hSw; (try dsimp only at hSw); have K := T8.out.keep hSw; have c0 := K.t.d.c0; have c1 := K.t.d.c1; have c2 := K.t.d.c2; have c3 := K.t.d.c3; clear K; have X := X8.out.keep hSw; have x0 := X.c0; have x1 := X.c1; clear X; have q0 := (hSw.cell (p := ⟨lb, lo + i * 2, none⟩) LZ8.out).trans Q0.out.1; have q1 := (hSw.cell (p := ⟨lb, lo + i * 2 + 1, none⟩) LZ8.out).trans Q0.out.2; clear hSw; go_simp; first | done | with_reducible rfl)
        try simp only [Act.put, List.setIfInBounds_toArray, List.set_cons_zero, List.set_cons_succ]
        refine wpAnyH_take (i := 28) (oi := { dst := some 85, op := Op.move (Operand.tmp 84), type := 4, pos := "outright.go:47", after := #[{ on := 27, ground := Ground.data }, { on := 25, ground := Ground.chain }, { on := 25, ground := Ground.guard }], guard := some (25, false) }) (v := ?_) rfl (by kernel_rfl) (by kernel_rfl) (by kernel_rfl) (fun _ _ _ h => h) (Or.inl ⟨by rfl, ?_⟩) (by assumption) ?_
        rotate_left
        · (intro wq hSw; (try dsimp only at hSw); have K := T8.out.keep hSw; have c0 := K.t.d.c0; have c1 := K.t.d.c1; have c2 := K.t.d.c2; have c3 := K.t.d.c3; clear K; have X := X8.out.keep hSw; have x0 := X.c0; have x1 := X.c1; clear X; have q0 := (hSw.cell (p := ⟨lb, lo + i * 2, none⟩) LZ8.out).trans Q0.out.1; have q1 := (hSw.cell (p := ⟨lb, lo + i * 2 + 1, none⟩) LZ8.out).trans Q0.out.2; clear hSw; go_simp; first | done | with_reducible rfl)
        try simp only [Act.put, List.setIfInBounds_toArray, List.set_cons_zero, List.set_cons_succ]
        refine wpAnyH_take (i := 29) (oi := { dst := some 86, op := Op.move (Operand.tmp 3), type := 83, pos := "outright.go:47", after := #[{ on := 28, ground := Ground.guard }], guard := some (28, true) }) (v := ?_) rfl (by kernel_rfl) (by kernel_rfl) (by kernel_rfl) (fun _ _ _ h => h) (Or.inl ⟨by rfl, ?_⟩) (by assumption) ?_
        rotate_left
        · (intro wq hSw; (try dsimp only at hSw); have K := T8.out.keep hSw; have c0 := K.t.d.c0; have c1 := K.t.d.c1; have c2 := K.t.d.c2; have c3 := K.t.d.c3; clear K; have X := X8.out.keep hSw; have x0 := X.c0; have x1 := X.c1; clear X; have q0 := (hSw.cell (p := ⟨lb, lo + i * 2, none⟩) LZ8.out).trans Q0.out.1; have q1 := (hSw.cell (p := ⟨lb, lo + i * 2 + 1, none⟩) LZ8.out).trans Q0.out.2; clear hSw; go_simp; first | done | with_reducible rfl)
        try simp only [Act.put, List.setIfInBounds_toArray, List.set_cons_zero, List.set_cons_succ]
        refine wpAnyH_take (i := 30) (oi := { dst := some 87, op := Op.move (Operand.tmp 5), type := 3, pos := "outright.go:47", after := #[{ on := 28, ground := Ground.guard }], guard := some (28, true) }) (v := ?_) rfl (by kernel_rfl) (by kernel_rfl) (by kernel_rfl) (fun _ _ _ h => h) (Or.inl ⟨by rfl, ?_⟩) (by assumption) ?_
        rotate_left
        · (intro wq hSw; (try dsimp only at hSw); have K := T8.out.keep hSw; have c0 := K.t.d.c0; have c1 := K.t.d.c1; have c2 := K.t.d.c2; have c3 := K.t.d.c3; clear K; have X := X8.out.keep hSw; have x0 := X.c0; have x1 := X.c1; clear X; have q0 := (hSw.cell (p := ⟨lb, lo + i * 2, none⟩) LZ8.out).trans Q0.out.1; have q1 := (hSw.cell (p := ⟨lb, lo + i * 2 + 1, none⟩) LZ8.out).trans Q0.out.2; clear hSw; go_simp; first | done | with_reducible rfl)
        try simp only [Act.put, List.setIfInBounds_toArray, List.set_cons_zero, List.set_cons_succ]
        refine wpAnyH_take (i := 31) (oi := { dst := some 88, op := Op.binOp BinOp.sub 3 (Operand.tmp 87) (Operand.const (Value.int IntKind.i64 1)) 3, type := 3, pos := "outright.go:47", after := #[{ on := 30, ground := Ground.data }, { on := 28, ground := Ground.guard }], guard := some (28, true) }) (v := ?_) rfl (by kernel_rfl) (by kernel_rfl) (by kernel_rfl) (fun _ _ _ h => h) (Or.inl ⟨by rfl, ?_⟩) (by assumption) ?_
        rotate_left
        · (intro wq hSw; (try dsimp only at hSw); have K := T8.out.keep hSw; have c0 := K.t.d.c0; have c1 := K.t.d.c1; have c2 := K.t.d.c2; have c3 := K.t.d.c3; clear K; have X := X8.out.keep hSw; have x0 := X.c0; have x1 := X.c1; clear X; have q0 := (hSw.cell (p := ⟨lb, lo + i * 2, none⟩) LZ8.out).trans Q0.out.1; have q1 := (hSw.cell (p := ⟨lb, lo + i * 2 + 1, none⟩) LZ8.out).trans Q0.out.2; clear hSw; go_simp; first | done | with_reducible rfl)
        try simp only [Act.put, List.setIfInBounds_toArray, List.set_cons_zero, List.set_cons_succ]
        refine wpAnyH_take (i := 32) (oi := { dst := some 89, op := Op.indexAddr 83 (Operand.tmp 86) (Operand.tmp 88), type := 0, pos := "outright.go:47", after := #[{ on := 29, ground := Ground.data }, { on := 31, ground := Ground.data }, { on := 28, ground := Ground.guard }], guard := some (28, true) }) (v := ?_) rfl (by kernel_rfl) (by kernel_rfl) (by kernel_rfl) (fun _ _ _ h => h) (Or.inl ⟨by rfl, ?_⟩) (by assumption) ?_
        rotate_left
        · (intro wq hSw; (try dsimp only at hSw); have K := T8.out.keep hSw; have c0 := K.t.d.c0; have c1 := K.t.d.c1; have c2 := K.t.d.c2; have c3 := K.t.d.c3; clear K; have X := X8.out.keep hSw; have x0 := X.c0; have x1 := X.c1; clear X; have q0 := (hSw.cell (p := ⟨lb, lo + i * 2, none⟩) LZ8.out).trans Q0.out.1; have q1 := (hSw.cell (p := ⟨lb, lo + i * 2 + 1, none⟩) LZ8.out).trans Q0.out.2; clear hSw; go_simp; first | done | with_reducible rfl)
        try simp only [Act.put, List.setIfInBounds_toArray, List.set_cons_zero, List.set_cons_succ]
        refine wpAnyH_take (i := 33) (oi := { dst := some 90, op := Op.load 87 (Operand.tmp 89), type := 87, pos := "outright.go:47", after := #[{ on := 32, ground := Ground.data }, { on := 28, ground := Ground.guard }], guard := some (28, true) }) (v := ?_) rfl (by kernel_rfl) (by kernel_rfl) (by kernel_rfl) (fun _ _ _ h => h) (Or.inl ⟨by rfl, ?_⟩) (by assumption) ?_
        rotate_left
        · (intro wq hSw; (try dsimp only at hSw); have K := T8.out.keep hSw; have c0 := K.t.d.c0; have c1 := K.t.d.c1; have c2 := K.t.d.c2; have c3 := K.t.d.c3; clear K; have X := X8.out.keep hSw; have x0 := X.c0; have x1 := X.c1; clear X; have q0 := (hSw.cell (p := ⟨lb, lo + i * 2, none⟩) LZ8.out).trans Q0.out.1; have q1 := (hSw.cell (p := ⟨lb, lo + i * 2 + 1, none⟩) LZ8.out).trans Q0.out.2; clear hSw; go_simp; first | done | with_reducible rfl)
        try simp only [Act.put, List.setIfInBounds_toArray, List.set_cons_zero, List.set_cons_succ]
        refine wpAnyH_take (i := 34) (oi := { dst := some 91, op := Op.load 87 (Operand.tmp 6), type := 87, pos := "outright.go:47", after := #[{ on := 28, ground := Ground.guard }], guard := some (28, true) }) (v := ?_) rfl (by kernel_rfl) (by kernel_rfl) (by kernel_rfl) (fun _ _ _ h => h) (Or.inl ⟨by rfl, ?_⟩) (by assumption) ?_
        rotate_left
        · (intro wq hSw; (try dsimp only at hSw); have K := T8.out.keep hSw; have c0 := K.t.d.c0; have c1 := K.t.d.c1; have c2 := K.t.d.c2; have c3 := K.t.d.c3; clear K; have X := X8.out.keep hSw; have x0 := X.c0; have x1 := X.c1; clear X; have q0 := (hSw.cell (p := ⟨lb, lo + i * 2, none⟩) LZ8.out).trans Q0.out.1; have q1 := (hSw.cell (p := ⟨lb, lo + i * 2 + 1, none⟩) LZ8.out).trans Q0.out.2; clear hSw; go_simp; first | done | with_reducible rfl)
        try simp only [Act.put, List.setIfInBounds_toArray, List.set_cons_zero, List.set_cons_succ]
        refine wpAnyH_take (i := 35) (oi := { dst := some 92, op := Op.binOp BinOp.eql 87 (Operand.tmp 90) (Operand.tmp 91) 87, type := 4, pos := "outright.go:47", after := #[{ on := 33, ground := Ground.data }, { on := 34, ground := Ground.data }, { on := 28, ground := Ground.guard }], guard := some (28, true) }) (v := ?_) rfl (by kernel_rfl) (by kernel_rfl) (by kernel_rfl) (fun _ _ _ h => h) (Or.inl ⟨by rfl, ?_⟩) (by assumption) ?_
        rotate_left
        · (intro wq hSw; (try dsimp only at hSw); have K := T8.out.keep hSw; have c0 := K.t.d.c0; have c1 := K.t.d.c1; have c2 := K.t.d.c2; have c3 := K.t.d.c3; clear K; have X := X8.out.keep hSw; have x0 := X.c0; have x1 := X.c1; clear X; have q0 := (hSw.cell (p := ⟨lb, lo + i * 2, none⟩) LZ8.out).trans Q0.out.1; have q1 := (hSw.cell (p := ⟨lb, lo + i * 2 + 1, none⟩) LZ8.out).trans Q0.out.2; clear hSw; go_simp; first | done | with_reducible rfl)
        try simp only [Act.put, List.setIfInBounds_toArray, List.set_cons_zero, List.set_cons_succ]
        refine wpAnyH_take (i := 36) (oi := { dst := some 93, op := Op.pick (Operand.tmp 85) (Operand.tmp 92) (Operand.const (Value.bool false)), type := 4, pos := "outright.go:47", after := #[{ on := 28, ground := Ground.data }, { on := 35, ground := Ground.data }, { on := 25, ground := Ground.guard }], guard := some (25, false) }) (v := ?_) rfl (by kernel_rfl) (by kernel_rfl) (by kernel_rfl) (fun _ _ _ h => h) (Or.inl ⟨by rfl, ?_⟩) (by assumption) ?_
        rotate_left
        · (intro wq hSw; (try dsimp only at hSw); have K := T8.out.keep hSw; have c0 := K.t.d.c0; have c1 := K.t.d.c1; have c2 := K.t.d.c2; have c3 := K.t.d.c3; clear K; have X := X8.out.keep hSw; have x0 := X.c0; have x1 := X.c1; clear X; have q0 := (hSw.cell (p := ⟨lb, lo + i * 2, none⟩) LZ8.out).trans Q0.out.1; have q1 := (hSw.cell (p := ⟨lb, lo + i * 2 + 1, none⟩) LZ8.out).trans Q0.out.2; clear hSw; go_simp; first | done | with_reducible rfl)
        try simp only [Act.put, List.setIfInBounds_toArray, List.set_cons_zero, List.set_cons_succ]
        refine wpAnyH_take (i := 37) (oi := { dst := some 94, op := Op.pick (Operand.tmp 82) (Operand.const (Value.bool true)) (Operand.tmp 93), type := 4, pos := "outright.go:47", after := #[{ on := 25, ground := Ground.data }, { on := 36, ground := Ground.data }], guard := none }) (v := ?_) rfl (by kernel_rfl) (by kernel_rfl) (by kernel_rfl) (fun _ _ _ h => h) (Or.inl ⟨by rfl, ?_⟩) (by assumption) ?_
        rotate_left
        · (intro wq hSw; (try dsimp only at hSw); have K := T8.out.keep hSw; have c0 := K.t.d.c0; have c1 := K.t.d.c1; have c2 := K.t.d.c2; have c3 := K.t.d.c3; clear K; have X := X8.out.keep hSw; have x0 := X.c0; have x1 := X.c1; clear X; have q0 := (hSw.cell (p := ⟨lb, lo + i * 2, none⟩) LZ8.out).trans Q0.out.1; have q1 := (hSw.cell (p := ⟨lb, lo + i * 2 + 1, none⟩) LZ8.out).trans Q0.out.2; clear hSw; go_simp; first | done | with_reducible rfl)
        try simp only [Act.put, List.setIfInBounds_toArray, List.set_cons_zero, List.set_cons_succ]
        refine wpAnyH_done (by kernel_rfl) ?_ _
        have T9 := Lib.hid (T8.out.keep hHeld)
        clear hHeld RU T8 X8 RY
        go_wp2_with fail
        go_roundg (E.length - j)
        case measure => exact KG.out
        case rel => exact ⟨j + 1, by go_num, ⟨by omega, by omega⟩, T9⟩
    · have hj' : ¬ (j : Int) < (E.length : Int) := by omega
      have J2 : Hid (dnthE L k s h E.length = 4) := Lib.hid (by
        unfold dnthE
        rw [if_pos DC.out, if_neg (by have := LE.out; omega)])
      have d0 := T5.out.t.d.c0
      have d1 := T5.out.t.d.c1
      have d2 := T5.out.t.d.c2
      have d3 := T5.out.t.d.c3
      go_wp2_with fail
      refine (Dnth_any _ L k s h E.length _ (HR.out.keep T5.out.t.below) HL.out).mono ?_
      rintro e y2 ⟨yv, er1, rfl, hb, hE1⟩
      obtain ⟨rfl, rfl⟩ : er1 = 4 ∧ yv = .slice none 0 0 := by
        obtain ⟨a, b⟩ := hE1.out
        rw [J2.out] at a
        subst a
        rcases b with ⟨c, _⟩ | ⟨_, c⟩
        · exact absurd c (by decide)
        · exact ⟨rfl, c⟩
      have B := Lib.hid ((T5.out.t.keep hb).below)
      clear hb hE1 T5 d0 d1 d2 d3
      go_wp2_with fail
      refine (awake2_any _).mono ?_
      rintro e y1 ⟨rfl, hb⟩
      have B2 := Lib.hid (B.out.trans (hb.mono B.out.size))
      clear hb B
      go_wp2
      exact bodyPost_ret (v := .bool true) (by simp [results, Try.results14, go_sem, *]) rfl ⟨rfl, B2.out⟩
theorem domainOrder_walk (v : Value) (L : List R3) (k s h : Int) (w : World) (hr : Rd w v L) (hL : Ok3 L) :
    Calls Try.prog 14 #[.agg #[v, .int .i64 k, .int .i64 s, .int .i64 h]] w fun e w' => e = .returned (.bool true) ∧ Below w.heap.size w w' := by
  cases sb : smallB L k s h
  · exact dn_bad v L k s h w hr hL sb
  · have sb' := sb
    unfold smallB at sb'
    simp at sb'
    exact dn_good v L k s h w hr hL sb'.1 sb'.2
end Go.Proofs.Ytmelknodmbdhpaa
