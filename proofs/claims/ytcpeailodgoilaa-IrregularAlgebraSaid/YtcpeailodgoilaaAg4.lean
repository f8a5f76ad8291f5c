/-
  Part 4: IrL, SpanA, SpanB, SpanC.
-/
import Derived.Test.YtcpeailodgoilaaAg3
import Derived.BigQuiet
import Derived.Deep.CutBlock
import Derived.Deep.DeepCutAuto
import Derived.Deep.DeepFit
import Derived.Deep.DrawnRows
import Derived.Deep.LoopGhost
import Derived.Deep.QuietTactic
import Derived.Deep.RegionHeld3
import Derived.Deep.RegionWith
import Derived.Laws.AppendOwn
import Derived.Lib.Hide
import Derived.Maps.AppendAt
import Derived.OwnWalk
import Derived.Test.YtcpeailodgoilaaRows
import Derived.WalkKit
import Derived.WalkLawsBesides
import Derived.WalkSpells
namespace Go.Proofs.Ytcpeailodgoilaa
open Go.RowKit
theorem ckF_zero : ∀ {p : Option Bs} {L : List Bs}, ckF p L = 0 → (∀ s ∈ L, s.size ≤ 100) ∧ Asc (p.toList ++ L)
  | p, [], _ => ⟨by simp, by cases p <;> simp [Asc]⟩
  | p, s :: l, h => by
    unfold ckF at h
    split at h
    · cases h
    · rename_i h1
      split at h
      · cases h
      · rename_i h2
        have ih := ckF_zero h
        refine ⟨fun x hx => ?_, ?_⟩
        · rcases List.mem_cons.1 hx with e | e
          · subst e; omega
          · exact ih.1 x e
        · cases p with
          | none => exact ih.2
          | some q =>
            have lt : slt q s = true := by
              simp only [Option.any_some, sle_eq] at h2
              simpa using h2
            exact List.pairwise_cons.2 ⟨asc_low ih.2 lt, ih.2⟩
theorem ckE_zero {L : List Bs} (h : ckE L = 0) : L.length ≤ 5000 ∧ (∀ s ∈ L, s.size ≤ 100) ∧ Asc L := by
  unfold ckE at h
  split at h
  · cases h
  · have := ckF_zero h
    exact ⟨by omega, this.1, this.2⟩
theorem ckF_of : ∀ {p : Option Bs} {L : List Bs}, (∀ s ∈ L, s.size ≤ 100) → Asc (p.toList ++ L) → ckF p L = 0
  | p, [], _, _ => rfl
  | p, s :: l, h, a => by
    unfold ckF
    rw [if_neg (by have := h s (by simp); omega), if_neg]
    · refine ckF_of (fun x hx => h x (List.mem_cons_of_mem _ hx)) ?_
      cases p with
      | none => exact a
      | some q => exact asc_tail a
    · cases p with
      | none => simp
      | some q =>
        simp only [Option.any_some, sle_eq]
        have := asc_head a s (by simp)
        simp [this]
theorem ckE_of {L : List Bs} (n : L.length ≤ 5000) (h : ∀ s ∈ L, s.size ≤ 100) (a : Asc L) : ckE L = 0 := by
  unfold ckE
  rw [if_neg (by omega)]
  exact ckF_of h a
theorem mg_len_le (keep : Bool → Bool → Bool) (a b : List Bs) : (mg keep a b).length ≤ a.length + b.length := by
  have ol : ∀ b x, (opt b x).length ≤ 1 := fun b x => by rw [opt_len]; split <;> omega
  fun_induction mg keep a b with
  | case1 => simp
  | case2 x a ih => have := ol (keep true false) x; simp at *; omega
  | case3 y b ih => have := ol (keep false true) y; simp at *; omega
  | case4 x a y b c ih => have := ol (keep true false) x; simp at *; omega
  | case5 x a y b c d ih => have := ol (keep false true) y; simp at *; omega
  | case6 x a y b c d ih => have := ol (keep true true) y; simp at *; omega
/-- a list of keys without an error -/
structure Kok (L : List Bs) (n : Nat) : Prop where
  len : L.length ≤ n
  size : ∀ s ∈ L, s.size ≤ 100
  asc : Asc L
theorem Kok.mg {A B : List Bs} {n m : Nat} (a : Kok A n) (b : Kok B m) (keep : Bool → Bool → Bool) : Kok (mg keep A B) (n + m) :=
  ⟨Nat.le_trans (mg_len_le keep A B) (by have := a.len; have := b.len; omega), fun s hs => (mg_sub keep A B s hs).elim (a.size s) (b.size s), mg_asc keep A B a.asc b.asc⟩
theorem Kok.ck {L : List Bs} {n : Nat} (a : Kok L n) (h : n ≤ 5000) : ckE L = 0 := ckE_of (by have := a.len; omega) a.size a.asc
theorem Kok.comb {A B : List Bs} {n m : Nat} (a : Kok A n) (b : Kok B m) (h : n + m ≤ 5000) (keep : Bool → Bool → Bool) : combE keep A B = 0 := by
  unfold combE
  rw [if_pos (a.ck (by omega)), if_pos (b.ck (by omega)), if_neg]
  have := (a.mg b keep).len
  omega
theorem comb_use {keep : Bool → Bool → Bool} {A B : List Bs} {w w' : World} {v : Value} {er : Int} (hE : Hid (er = combE keep A B ∧ ((er = 0 ∧ w'.ownsRow w.heap.size 9 1 v (mg keep A B).length ((mg keep A B).map Value.string)) ∨ (¬ er = 0 ∧ v = .slice none 0 0)))) (h0 : combE keep A B = 0) : er = 0 ∧ Hid (Rs w' v (mg keep A B)) := by
  obtain ⟨e, h⟩ := hE.out
  rw [h0] at e
  rcases h with ⟨_, o⟩ | ⟨z, _⟩
  · exact ⟨e, Lib.hid (Rs.of_own o)⟩
  · exact absurd e z
theorem chg_use {keep : Bool → Bool → Bool} {A : List Bs} {k : Bs} {w w' : World} {v : Value} {b : Bool} {er : Int} (hE : Hid (er = combE keep A [k] ∧ ((er = 0 ∧ b = decide ((mg keep A [k]).length ≠ A.length) ∧ w'.ownsRow w.heap.size 9 1 v (mg keep A [k]).length ((mg keep A [k]).map Value.string)) ∨ (¬ er = 0 ∧ b = false ∧ v = .slice none 0 0)))) (h0 : combE keep A [k] = 0) :
    er = 0 ∧ b = decide ((mg keep A [k]).length ≠ A.length) ∧ Hid (Rs w' v (mg keep A [k])) := by
  obtain ⟨e, h⟩ := hE.out
  rw [h0] at e
  rcases h with ⟨_, hb, o⟩ | ⟨z, _⟩
  · exact ⟨e, hb, Lib.hid (Rs.of_own o)⟩
  · exact absurd e z
theorem Kok.one {k : Bs} (h : k.size ≤ 100) : Kok [k] 1 := ⟨by simp, by simpa using h, asc_one k⟩
/-- what is kept of the law's arguments -/
structure Al (w : World) (va vb : Value) (A B : List Bs) (wr : World) : Prop where
  below : Below w.heap.size w wr
  a : Rs wr va A
  b : Rs wr vb B
theorem Al.keep {w : World} {va vb : Value} {A B : List Bs} {wx wy : World} (t : Al w va vb A B wx) (hb : Below wx.heap.size wx wy) : Al w va vb A B wy := ⟨t.below.trans (hb.mono t.below.size), t.a.keep hb, t.b.keep hb⟩
/-- the four results, too -/
structure Al4 (w : World) (va vb : Value) (A B : List Bs) (jv mv lv ov : Value) (wr : World) : Prop where
  t : Al w va vb A B wr
  j : Rs wr jv (mg kOr A B)
  m : Rs wr mv (mg kAnd A B)
  l : Rs wr lv (mg kLess A B)
  o : Rs wr ov (mg kOdd A B)
theorem Al4.keep {w : World} {va vb : Value} {A B : List Bs} {jv mv lv ov : Value} {wx wy : World} (t : Al4 w va vb A B jv mv lv ov wx) (hb : Below wx.heap.size wx wy) : Al4 w va vb A B jv mv lv ov wy :=
  ⟨t.t.keep hb, t.j.keep hb, t.m.keep hb, t.l.keep hb, t.o.keep hb⟩
theorem two_cells {w : World} {va vb : Value} (t : TypeId) (A B : List Bs) (ha : Rs w va A) (hb : Rs w vb B) : ∀ (j : Nat) (p : Value × List Bs), [(va, A), (vb, B)][j]? = some p → (w.alloc (.cells #[va, vb] t)).cell? ⟨w.heap.size, 0 + j, none⟩ = some p.1 ∧ Rs (w.alloc (.cells #[va, vb] t)) p.1 p.2 := fun j p hp => by
  have K : Below w.heap.size w (w.alloc (.cells #[va, vb] t)) := (Below.refl _ w).alloc (Nat.le_refl _) _
  match j, hp with
  | 0, hp => cases hp; exact ⟨by simp [go_sem], ha.keep K⟩
  | 1, hp => cases hp; exact ⟨by simp [go_sem], hb.keep K⟩
  | j + 2, hp => simp at hp
set_option maxRecDepth 100000 in
set_option maxHeartbeats 25600000 in
theorem irrAlg_walk (haw : Hid (∀ w, Calls Try.prog 106 #[] w fun e w' => e = .returned (.bool true) ∧ Below w.heap.size w w')) (va vb : Value) (A B : List Bs) (k : Bs) (w : World) (hra : Rs w va A) (hrb : Rs w vb B)
    (za : ∀ c, va = .slice none 0 c → c = 0) (zb : ∀ c, vb = .slice none 0 c → c = 0) :
    Calls Try.prog 19 #[va, vb, .string k] w fun e w' => e = .returned (.bool true) ∧ Below w.heap.size w w' := by
  have HA0 := Lib.hid hra
  have HB0 := Lib.hid hrb
  obtain ⟨oa, sa, rfl, _, _⟩ := hra
  obtain ⟨ob, sb, rfl, _, _⟩ := hrb
  have hra := HA0.out
  have hrb := HB0.out
  clear HA0 HB0
  obtain ⟨va, hva⟩ : ∃ v, v = Value.slice oa A.length sa := ⟨_, rfl⟩
  obtain ⟨vb, hvb⟩ : ∃ v, v = Value.slice ob B.length sb := ⟨_, rfl⟩
  rw [← hva] at hra za
  rw [← hvb] at hrb zb
  have T0 : Hid (Al w va vb A B (w.alloc (.cells #[va, vb] 99))) := Lib.hid ⟨(Below.refl _ w).alloc (Nat.le_refl _) _, hra.keep ((Below.refl _ w).alloc (Nat.le_refl _) _), hrb.keep ((Below.refl _ w).alloc (Nat.le_refl _) _)⟩
  have FK := fewKeys_any w.heap.size 0 2 [(va, A), (vb, B)] _ (Lib.hid (two_cells 99 A B hra hrb)) (by simp)
  change Calls _ _ #[.slice (some ⟨w.heap.size, 0, none⟩) 2 2] _ _ at FK
  have ZA := Lib.hid za
  have ZB := Lib.hid zb
  clear hra hrb za zb
  subst hva hvb
  go_enter Try.func19, Try.ntmps19
  go_wp2_with fail
  refine FK.mono ?_
  rintro e w1 ⟨rfl, rfl⟩
  clear FK
  cases hf : fkB [(Value.slice oa A.length sa, A), (Value.slice ob B.length sb, B)]
  · clear hf
    go_wp2_with fail
    refine (haw.out _).mono ?_
    rintro e y1 ⟨rfl, hb⟩
    have B := Lib.hid (T0.out.below.trans (hb.mono T0.out.below.size))
    clear hb T0
    go_wp2
    exact bodyPost_ret (v := .bool true) (by simp [results, Try.results19, go_sem, *]) rfl ⟨rfl, B.out⟩
  · have FB := Lib.hid hf
    clear hf
    by_cases ks : 100 < k.size
    · have ks' : (100 : Int) < (k.size : Int) := by omega
      have ksd : decide ((100 : Int) < (k.size : Int)) = true := by simp; omega
      clear ks
      go_wp2_with fail
      refine (haw.out _).mono ?_
      rintro e y1 ⟨rfl, hb⟩
      have B := Lib.hid (T0.out.below.trans (hb.mono T0.out.below.size))
      clear hb T0
      go_wp2
      exact bodyPost_ret (v := .bool true) (by simp [results, Try.results19, go_sem, *]) rfl ⟨rfl, B.out⟩
    · have ks' : ¬ (100 : Int) < (k.size : Int) := by omega
      have ksd : decide ((100 : Int) < (k.size : Int)) = false := by simp; omega
      have KS := Lib.hid ks
      clear ks
      have LA : Hid (A.length ≤ 100 ∧ B.length ≤ 100) := Lib.hid (by
        have h := FB.out
        unfold fkB at h
        simp at h
        exact ⟨h.1.1, h.2.1⟩)
      go_wp2_with fail
      refine (checkKeys_any _ A _ T0.out.a (by have := LA.out; omega)).mono ?_
      rintro e w1 ⟨rfl, rfl⟩
      by_cases ca : ckE A = 0
      · rw [ca]
        have CA := Lib.hid (ckE_zero ca)
        clear ca
        go_wp2_with fail
        refine (checkKeys_any _ B _ T0.out.b (by have := LA.out; omega)).mono ?_
        rintro e w1 ⟨rfl, rfl⟩
        by_cases cb : ckE B = 0
        · rw [cb]
          have KA : Hid (Kok A 100) := Lib.hid ⟨LA.out.1, CA.out.2.1, CA.out.2.2⟩
          have KB : Hid (Kok B 100) := Lib.hid ⟨LA.out.2, (ckE_zero cb).2.1, (ckE_zero cb).2.2⟩
          have KK : Hid (Kok [k] 1) := Lib.hid (Kok.one (by have := KS.out; omega))
          clear cb CA LA FB
          generalize w.alloc (.cells #[.slice oa A.length sa, .slice ob B.length sb] 99) = u0 at *
          as_aux_lemma =>
            go_wp2_with fail
            refine (Add_any _ A k _ T0.out.a (by have := KA.out.len; omega)).mono ?_
            rintro e w1 ⟨kv, fb, er, rfl, hb, hE⟩
            obtain ⟨rfl, hfb, RK⟩ := chg_use hE (KA.out.comb KK.out (by omega) kOr)
            have T1 := Lib.hid (T0.out.keep hb)
            have FBK : Hid (fb = !decide (k ∈ A)) := Lib.hid (by
              rw [hfb, add_fresh KA.out.asc k]
              by_cases h : k ∈ A <;> simp [h])
            have KC := Lib.hid (KA.out.mg KK.out kOr)
            clear hb hE hfb T0
            go_wp2_with fail
            refine (Remove_any _ _ k _ RK.out (by have := KC.out.len; omega)).mono ?_
            rintro e w2 ⟨mv, wb, er, rfl, hb, hE⟩
            obtain ⟨rfl, hwb, RM⟩ := chg_use hE (KC.out.comb KK.out (by omega) kLess)
            have T2 := Lib.hid (T1.out.keep hb)
            have RK2 := Lib.hid (RK.out.keep hb)
            have WB : wb = true := by
              rw [hwb]
              have h := rem_was KC.out.asc k
              have m : k ∈ mg kOr A [k] := (mg_mem kOr A [k] KA.out.asc (asc_one k) k).2 ⟨by simp, by simp [kOr]⟩
              rw [if_pos m] at h
              simp
              omega
            subst WB
            clear hb hE hwb T1 RK
            go_upto_region 6 with fail
            go_cut [105] (fun v105 wx => v105 = .bool false ∧ Hid (Al w (.slice oa A.length sa) (.slice ob B.length sb) A B wx))
            case first =>
              by_cases hk : k ∈ A
              · have F0 : fb = false := by rw [FBK.out]; simp [hk]
                subst F0
                have EQ : Hid (mg kOr A [k] = A) := Lib.hid (add_same KA.out.asc hk)
                have IN : Hid (decide (k ∈ A) = true) := Lib.hid (by simp [hk])
                clear hk
                go_wp2_with fail
                refine (hasS_any _ A k _ T2.out.a (by have := KA.out.len; omega)).mono ?_
                rintro e w3 ⟨rfl, rfl⟩
                rw [IN.out]
                go_wp2_with fail
                refine (equalK_any _ _ _ A _ RK2.out T2.out.a (by have := KA.out.len; have := KC.out.len; omega)).mono ?_
                rintro e w4 ⟨b, rfl, hB, hb⟩
                have hB1 : b = true := hB.out.2 EQ.out
                subst hB1
                have T3 := Lib.hid (T2.out.keep hb)
                clear hb hB T2
                go_wp2_with fail
                go_meet
                exact ⟨rfl, T3⟩
              · have F0 : fb = true := by rw [FBK.out]; simp [hk]
                subst F0
                have EQ : Hid (mg kLess (mg kOr A [k]) [k] = A) := Lib.hid (rem_add KA.out.asc hk)
                have IN : Hid (decide (k ∈ A) = false) := Lib.hid (by simp [hk])
                clear hk
                go_wp2_with fail
                refine (hasS_any _ A k _ T2.out.a (by have := KA.out.len; omega)).mono ?_
                rintro e w3 ⟨rfl, rfl⟩
                rw [IN.out]
                go_wp2_with fail
                refine (equalK_any _ _ _ A _ RM.out T2.out.a (by have := KA.out.len; have := (KC.out.mg KK.out kLess).len; omega)).mono ?_
                rintro e w4 ⟨b, rfl, hB, hb⟩
                have hB1 : b = true := hB.out.2 EQ.out
                subst hB1
                have T3 := Lib.hid (T2.out.keep hb)
                clear hb hB T2
                go_wp2_with fail
                go_meet
                exact ⟨rfl, T3⟩
            case rest =>
              obtain ⟨rfl, T3⟩ := hcut
              clear T2 RK2 RM FBK KC
              as_aux_lemma =>
                go_wp2_with fail
                refine (Join_any _ _ A B _ T3.out.a T3.out.b (by have := KA.out.len; have := KB.out.len; omega)).mono ?_
                rintro e x0 ⟨jv, er, rfl, hb, hE⟩
                obtain ⟨rfl, RJ⟩ := comb_use hE (KA.out.comb KB.out (by omega) kOr)
                have U0 := Lib.hid (T3.out.keep hb)
                clear hb hE T3
                go_wp2_with fail
                refine (Meet_any _ _ A B _ U0.out.a U0.out.b (by have := KA.out.len; have := KB.out.len; omega)).mono ?_
                rintro e x1 ⟨mv, er, rfl, hb, hE⟩
                obtain ⟨rfl, RMt⟩ := comb_use hE (KA.out.comb KB.out (by omega) kAnd)
                have U1 := Lib.hid (U0.out.keep hb)
                have RJ := Lib.hid (RJ.out.keep hb)
                clear hb hE U0
                go_wp2_with fail
                refine (Less_any _ _ A B _ U1.out.a U1.out.b (by have := KA.out.len; have := KB.out.len; omega)).mono ?_
                rintro e x2 ⟨lv, er, rfl, hb, hE⟩
                obtain ⟨rfl, RL⟩ := comb_use hE (KA.out.comb KB.out (by omega) kLess)
                have U2 := Lib.hid (U1.out.keep hb)
                have RJ := Lib.hid (RJ.out.keep hb)
                have RMt := Lib.hid (RMt.out.keep hb)
                clear hb hE U1
                go_wp2_with fail
                refine (Odd_any _ _ A B _ U2.out.a U2.out.b (by have := KA.out.len; have := KB.out.len; omega)).mono ?_
                rintro e x3 ⟨ov, er, rfl, hb, hE⟩
                obtain ⟨rfl, RO⟩ := comb_use hE (KA.out.comb KB.out (by omega) kOdd)
                have U3 := Lib.hid (U2.out.keep hb)
                have RJ := Lib.hid (RJ.out.keep hb)
                have RMt := Lib.hid (RMt.out.keep hb)
                have RL := Lib.hid (RL.out.keep hb)
                clear hb hE U2
                have V0 : Hid (Al4 w (.slice oa A.length sa) (.slice ob B.length sb) A B jv mv lv ov x3) := Lib.hid ⟨U3.out, RJ.out, RMt.out, RL.out, RO.out⟩
                clear U3 RJ RMt RL RO
                go_wp2_with fail
                have nb : Below x3.heap.size x3 (x3.alloc (.cells #[.int .i64 0, .int .i64 0, .int .i64 0, .int .i64 0] 24)) := (Below.refl _ _).alloc (Nat.le_refl _) _
                have V1 := Lib.hid (V0.out.keep nb)
                have C4 : Hid (∀ j, j < 4 → (x3.alloc (.cells #[.int .i64 0, .int .i64 0, .int .i64 0, .int .i64 0] 24)).cell? ⟨x3.heap.size, j, none⟩ = some (.int .i64 0)) := Lib.hid (fun j hj => by
                  match j, hj with
                  | 0, _ => simp [go_sem]
                  | 1, _ => simp [go_sem]
                  | 2, _ => simp [go_sem]
                  | 3, _ => simp [go_sem])
                clear nb V0
                generalize x3.alloc (.cells #[.int .i64 0, .int .i64 0, .int .i64 0, .int .i64 0] 24) = x4 at *
                generalize x3.heap.size = g4 at *
                go_loopg [24, 136] 5 (fun gh _ v136 wr => ∃ j : Nat, v136 = .int .i64 j ∧ (j ≤ 4 ∧ 4 - j < gh) ∧ wr = x4)
                case atStart => exact ⟨0, rfl, ⟨by omega, by omega⟩, rfl⟩
                case round =>
                  obtain ⟨j, rfl, ⟨j0, jg⟩, rfl⟩ := hrel
                  have KG := Lib.hid jg
                  clear jg
                  by_cases hj : j < 4
                  · have p0 := C4.out j hj
                    have jw : IntKind.i64.wrap ((j : Int) + 1) = (j : Int) + 1 := IntWalk.i64_in _ (by omega)
                    have jn : (j : Int) < 4 := by omega
                    go_wp2_with fail
                    go_roundg (4 - j)
                    case measure => exact KG.out
                    case rel => exact ⟨j + 1, by go_num, ⟨by omega, by omega⟩, rfl⟩
                  · have jn : ¬ (j : Int) < 4 := by omega
                    clear hj C4
                    as_aux_lemma =>
                      have nb : Below wr.heap.size wr (wr.alloc (.cells #[.slice oa A.length sa, .slice ob B.length sb] 99)) := (Below.refl _ _).alloc (Nat.le_refl _) _
                      have V2 := Lib.hid (V1.out.keep nb)
                      have q0 : (wr.alloc (.cells #[.slice oa A.length sa, .slice ob B.length sb] 99)).cell? ⟨wr.heap.size, 0, none⟩ = some (.slice oa A.length sa) := by simp [go_sem]
                      have q1 : (wr.alloc (.cells #[.slice oa A.length sa, .slice ob B.length sb] 99)).cell? ⟨wr.heap.size, 1, none⟩ = some (.slice ob B.length sb) := by simp [go_sem]
                      have CC := concatS_any (.slice oa A.length sa) (.slice ob B.length sb) wr.heap.size A B (wr.alloc (.cells #[.slice oa A.length sa, .slice ob B.length sb] 99)) (by simp) q0 q1 (Lib.hid V2.out.t.a) (Lib.hid V2.out.t.b) ZA ZB (by have := KA.out.len; omega) (by have := KB.out.len; omega)
                      have NB := Lib.hid nb
                      clear q0 q1 nb V2
                      go_wp2_with fail
                      refine CC.mono ?_
                      rintro e y0 ⟨cv, rfl, ow, hb⟩
                      have BY : Hid (Below wr.heap.size wr y0) := Lib.hid (NB.out.trans (hb.mono (by simp)))
                      have OW := Lib.hid (i_own_base ow.out (show wr.heap.size ≤ _ by simp))
                      have nAB : (A ++ B).length ≤ 1000 := by have := KA.out.len; have := KB.out.len; simp; omega
                      clear hb CC NB ow
                      obtain ⟨co, cc, rfl⟩ := i_own_slice OW.out
                      obtain ⟨i0, hi, hz0, hz1, hz2⟩ := info_parts Try.infoStr
                      have sz : wr.heap.size ≤ y0.heap.size := BY.out.size
                      generalize hAB : A ++ B = AB at *
                      clear hAB
                      go_wp2_with (first | (at_builtin; refine wpList_append_own _ rfl (.tmp 146) (.tmp 148) 99 rfl wr.heap.size 9 i0 (.string ⟨#[]⟩) 1 16 Try.underlying99 hi hz0 hz1 hz2 rfl (by decide) _ AB.length (AB.map Value.string) rfl (OW.out.alloc _) ⟨y0.heap.size, 0, none⟩ 1 1 [.string k] rfl rfl ?c1 ?c2 ?c3 ?c4 ?c5 ?_))
                      case c1 => exact cell_one_new _ _ _
                      case c2 => intro u hu; simp at hu; subst hu; rfl
                      case c3 => unfold maxLen; omega
                      case c4 => omega
                      case c5 => simp; omega
                      intro v2 y1 own2 grow2 _
                      have BZ : Hid (Below wr.heap.size wr y1) := Lib.hid ((BY.out.trans ((Below.refl _ _).alloc sz _)).trans ((Below.refl _ _).grown grow2 (by simp; omega) (fun g hg => (OW.out.lt g hg).1)))
                      have RS : Hid (Rs y1 v2 (AB ++ [k])) := Lib.hid (Rs.of_own (by rw [List.length_append, List.map_append]; exact own2))
                      have V4 := Lib.hid (V1.out.keep BZ.out)
                      clear own2 grow2 BY OW V1 BZ sz
                      have nS : (AB ++ [k]).length ≤ 2000 := by simp; omega
                      generalize AB ++ [k] = SL at *
                      obtain ⟨so, sc, rfl, _, qs⟩ := RS.out
                      have QS := Lib.hid qs
                      clear qs RS nAB
                      go_wp2_with fail
                      go_loopg [26, 27, 28, 151] (SL.length + 1) (fun gh _ _ _ v151 wx => ∃ j : Nat, v151 = .int .i64 j ∧ (j ≤ SL.length ∧ SL.length - j < gh) ∧ wx = y1)
                      case atStart => exact ⟨0, rfl, ⟨by omega, by omega⟩, rfl⟩
                      case round =>
                        obtain ⟨j, rfl, ⟨j0, jg⟩, rfl⟩ := hrel
                        have KG := Lib.hid jg
                        clear jg
                        by_cases hj : j < SL.length
                        · obtain ⟨s, hs⟩ : ∃ s, SL[j]? = some s := ⟨SL[j], List.getElem?_eq_getElem hj⟩
                          obtain ⟨b, o, rfl, _, cs⟩ := QS.out.resolve_left (by omega)
                          have p0 := cs j s hs
                          have jw : IntKind.i64.wrap ((j : Int) + 1) = (j : Int) + 1 := IntWalk.i64_in _ (by omega)
                          have jn : (j : Int) < (SL.length : Int) := by omega
                          obtain ⟨ia, hia⟩ : ∃ i, i = decide (s ∈ A) := ⟨_, rfl⟩
                          obtain ⟨ib, hib⟩ : ∃ i, i = decide (s ∈ B) := ⟨_, rfl⟩
                          have MJ : Hid (decide (s ∈ mg kOr A B) = (ia || ib)) := Lib.hid (by rw [mg_dec kOr KA.out.asc KB.out.asc, ← hia, ← hib]; cases ia <;> cases ib <;> rfl)
                          have MM : Hid (decide (s ∈ mg kAnd A B) = (ia && ib)) := Lib.hid (by rw [mg_dec kAnd KA.out.asc KB.out.asc, ← hia, ← hib]; cases ia <;> cases ib <;> rfl)
                          have ML : Hid (decide (s ∈ mg kLess A B) = (ia && !ib)) := Lib.hid (by rw [mg_dec kLess KA.out.asc KB.out.asc, ← hia, ← hib]; cases ia <;> cases ib <;> rfl)
                          have MO : Hid (decide (s ∈ mg kOdd A B) = (ia != ib)) := Lib.hid (by rw [mg_dec kOdd KA.out.asc KB.out.asc, ← hia, ← hib]; cases ia <;> cases ib <;> rfl)
                          have HIA := Lib.hid hia
                          have HIB := Lib.hid hib
                          clear hs cs QS hia hib
                          go_wp2_with fail
                          refine (hasS_any _ A s _ V4.out.t.a (by have := KA.out.len; omega)).mono ?_
                          rintro e w' ⟨rfl, rfl⟩
                          rw [← HIA.out]
                          go_wp2_with fail
                          refine (hasS_any _ B s _ V4.out.t.b (by have := KB.out.len; omega)).mono ?_
                          rintro e w' ⟨rfl, rfl⟩
                          rw [← HIB.out]
                          clear HIA HIB p0
                          cases ia <;> cases ib
                          all_goals
                            go_wp2_with fail
                            refine (hasK_any _ _ s _ V4.out.j (by have := (KA.out.mg KB.out kOr).len; omega)).mono ?_
                            rintro e w' ⟨rfl, rfl⟩
                            rw [MJ.out]
                            go_wp2_with fail
                            refine (hasK_any _ _ s _ V4.out.m (by have := (KA.out.mg KB.out kAnd).len; omega)).mono ?_
                            rintro e w' ⟨rfl, rfl⟩
                            rw [MM.out]
                            go_wp2_with fail
                            refine (hasK_any _ _ s _ V4.out.l (by have := (KA.out.mg KB.out kLess).len; omega)).mono ?_
                            rintro e w' ⟨rfl, rfl⟩
                            rw [ML.out]
                            go_wp2_with fail
                            refine (hasK_any _ _ s _ V4.out.o (by have := (KA.out.mg KB.out kOdd).len; omega)).mono ?_
                            rintro e w' ⟨rfl, rfl⟩
                            rw [MO.out]
                            go_wp2_with fail
                            go_roundg (SL.length - j)
                            case measure => exact KG.out
                            case rel => exact ⟨j + 1, by go_num, ⟨by omega, by omega⟩, rfl⟩
                        · have jn : ¬ (j : Int) < (SL.length : Int) := by omega
                          clear hj QS
                          as_aux_lemma =>
                            have EJ : Hid (mg kOr A B = mg kOr B A) := Lib.hid (mg_comm (fun x y => Bool.or_comm x y) KA.out.asc KB.out.asc)
                            have EM : Hid (mg kAnd A B = mg kAnd B A) := Lib.hid (mg_comm (fun x y => Bool.and_comm x y) KA.out.asc KB.out.asc)
                            have EO : Hid (mg kOdd A B = mg kOdd B A) := Lib.hid (mg_comm (fun x y => by cases x <;> cases y <;> rfl) KA.out.asc KB.out.asc)
                            have ER : Hid (mg kOdd A B = mg kLess (mg kOr A B) (mg kAnd A B)) := Lib.hid (odd_rest KA.out.asc KB.out.asc)
                            go_wp2_with fail
                            refine (Join_any _ _ B A _ V4.out.t.b V4.out.t.a (by have := KA.out.len; have := KB.out.len; omega)).mono ?_
                            rintro e z0 ⟨tv, er, rfl, hb, hE⟩
                            obtain ⟨rfl, SJ⟩ := comb_use hE (KB.out.comb KA.out (by omega) kOr)
                            have Z0 := Lib.hid (V4.out.keep hb)
                            clear hb hE V4
                            go_wp2_with fail
                            refine (Meet_any _ _ B A _ Z0.out.t.b Z0.out.t.a (by have := KA.out.len; have := KB.out.len; omega)).mono ?_
                            rintro e z1 ⟨nv, er, rfl, hb, hE⟩
                            obtain ⟨rfl, SM⟩ := comb_use hE (KB.out.comb KA.out (by omega) kAnd)
                            have Z1 := Lib.hid (Z0.out.keep hb)
                            have SJ := Lib.hid (SJ.out.keep hb)
                            clear hb hE Z0
                            go_wp2_with fail
                            refine (Odd_any _ _ B A _ Z1.out.t.b Z1.out.t.a (by have := KA.out.len; have := KB.out.len; omega)).mono ?_
                            rintro e z2 ⟨dv, er, rfl, hb, hE⟩
                            obtain ⟨rfl, SO⟩ := comb_use hE (KB.out.comb KA.out (by omega) kOdd)
                            have Z2 := Lib.hid (Z1.out.keep hb)
                            have SJ := Lib.hid (SJ.out.keep hb)
                            have SM := Lib.hid (SM.out.keep hb)
                            clear hb hE Z1
                            go_wp2_with fail
                            refine (Less_any _ _ (mg kOr A B) (mg kAnd A B) _ Z2.out.j Z2.out.m (by have := (KA.out.mg KB.out kOr).len; have := (KA.out.mg KB.out kAnd).len; omega)).mono ?_
                            rintro e z3 ⟨rv, er, rfl, hb, hE⟩
                            obtain ⟨rfl, SR⟩ := comb_use hE ((KA.out.mg KB.out kOr).comb (KA.out.mg KB.out kAnd) (by omega) kLess)
                            have Z3 := Lib.hid (Z2.out.keep hb)
                            have SJ := Lib.hid (SJ.out.keep hb)
                            have SM := Lib.hid (SM.out.keep hb)
                            have SO := Lib.hid (SO.out.keep hb)
                            clear hb hE Z2
                            go_wp2_with fail
                            refine (equalK_any _ _ _ _ _ Z3.out.j SJ.out (by have h1 := (KA.out.mg KB.out kOr).len; have h2 := (KA.out.mg KB.out kAnd).len; have h3 := (KA.out.mg KB.out kOdd).len; have h4 := (KB.out.mg KA.out kOr).len; have h5 := (KB.out.mg KA.out kAnd).len; have h6 := (KB.out.mg KA.out kOdd).len; have h7 := ((KA.out.mg KB.out kOr).mg (KA.out.mg KB.out kAnd) kLess).len; omega)).mono ?_
                            rintro e q0 ⟨b, rfl, hB, hb⟩
                            have hB1 : b = true := hB.out.2 EJ.out
                            subst hB1
                            have Y0 := Lib.hid (Z3.out.keep hb)
                            have SM := Lib.hid (SM.out.keep hb)
                            have SO := Lib.hid (SO.out.keep hb)
                            have SR := Lib.hid (SR.out.keep hb)
                            clear hb hB Z3 SJ
                            go_wp2_with fail
                            refine (equalK_any _ _ _ _ _ Y0.out.m SM.out (by have h1 := (KA.out.mg KB.out kOr).len; have h2 := (KA.out.mg KB.out kAnd).len; have h3 := (KA.out.mg KB.out kOdd).len; have h4 := (KB.out.mg KA.out kOr).len; have h5 := (KB.out.mg KA.out kAnd).len; have h6 := (KB.out.mg KA.out kOdd).len; have h7 := ((KA.out.mg KB.out kOr).mg (KA.out.mg KB.out kAnd) kLess).len; omega)).mono ?_
                            rintro e q1 ⟨b, rfl, hB, hb⟩
                            have hB1 : b = true := hB.out.2 EM.out
                            subst hB1
                            have Y1 := Lib.hid (Y0.out.keep hb)
                            have SO := Lib.hid (SO.out.keep hb)
                            have SR := Lib.hid (SR.out.keep hb)
                            clear hb hB Y0 SM
                            go_wp2_with fail
                            refine (equalK_any _ _ _ _ _ Y1.out.o SO.out (by have h1 := (KA.out.mg KB.out kOr).len; have h2 := (KA.out.mg KB.out kAnd).len; have h3 := (KA.out.mg KB.out kOdd).len; have h4 := (KB.out.mg KA.out kOr).len; have h5 := (KB.out.mg KA.out kAnd).len; have h6 := (KB.out.mg KA.out kOdd).len; have h7 := ((KA.out.mg KB.out kOr).mg (KA.out.mg KB.out kAnd) kLess).len; omega)).mono ?_
                            rintro e q2 ⟨b, rfl, hB, hb⟩
                            have hB1 : b = true := hB.out.2 EO.out
                            subst hB1
                            have Y2 := Lib.hid (Y1.out.keep hb)
                            have SR := Lib.hid (SR.out.keep hb)
                            clear hb hB Y1 SO
                            go_wp2_with fail
                            refine (equalK_any _ _ _ _ _ Y2.out.o SR.out (by have h1 := (KA.out.mg KB.out kOr).len; have h2 := (KA.out.mg KB.out kAnd).len; have h3 := (KA.out.mg KB.out kOdd).len; have h4 := (KB.out.mg KA.out kOr).len; have h5 := (KB.out.mg KA.out kAnd).len; have h6 := (KB.out.mg KA.out kOdd).len; have h7 := ((KA.out.mg KB.out kOr).mg (KA.out.mg KB.out kAnd) kLess).len; omega)).mono ?_
                            rintro e q3 ⟨b, rfl, hB, hb⟩
                            have hB1 : b = true := hB.out.2 ER.out
                            subst hB1
                            have Y3 := Lib.hid (Y2.out.keep hb)
                            clear hb hB Y2 SR
                            go_wp2_with fail
                            refine (haw.out _).mono ?_
                            rintro e y1 ⟨rfl, hb⟩
                            have B := Lib.hid (Y3.out.t.below.trans (hb.mono Y3.out.t.below.size))
                            clear hb Y3
                            go_wp2
                            exact bodyPost_ret (v := .bool true) (by simp [results, Try.results19, go_sem, *]) rfl ⟨rfl, B.out⟩
        · generalize ckE B = er at *
          have c2 : (er != 0) = true := by simp [cb]
          clear cb
          go_wp2_with fail
          refine (haw.out _).mono ?_
          rintro e y1 ⟨rfl, hb⟩
          have B := Lib.hid (T0.out.below.trans (hb.mono T0.out.below.size))
          clear hb T0
          go_wp2
          exact bodyPost_ret (v := .bool true) (by simp [results, Try.results19, go_sem, *]) rfl ⟨rfl, B.out⟩
      · generalize ckE A = er at *
        have c2 : (er != 0) = true := by simp [ca]
        clear ca
        go_wp2_with fail
        refine (haw.out _).mono ?_
        rintro e y1 ⟨rfl, hb⟩
        have B := Lib.hid (T0.out.below.trans (hb.mono T0.out.below.size))
        clear hb T0
        go_wp2
        exact bodyPost_ret (v := .bool true) (by simp [results, Try.results19, go_sem, *]) rfl ⟨rfl, B.out⟩
end Go.Proofs.Ytcpeailodgoilaa
namespace Go.Proofs.Ytcpeailodgoilaa
open Go.RowKit
/-- the absolute value -/
def magA (n : Int) : Int := if n < 0 then -n else n
theorem magA_nonneg (n : Int) : 0 ≤ magA n := by unfold magA; split <;> omega
theorem magA_neg {n : Int} (h : n < 0) : magA n = -n := by unfold magA; rw [if_pos h]
theorem magA_pos {n : Int} (h : 0 ≤ n) : magA n = n := by unfold magA; rw [if_neg (by omega)]
/-- the ends and the stride of the normal range -/
def nL (l h : Int) : Int := if h < l then 1 else l
def nH (l h : Int) : Int := if h < l then 0 else h
def nS (l h st : Int) (dn : Bool) : Int := if h < l then 1 else if l = h then 1 else if dn then -st else st
theorem u64_neg (n : Int) (h1 : -9223372036854775808 ≤ n) (h2 : n < 0) : IntKind.u64.wrap (-IntKind.u64.wrap n) = -n := by
  rw [IntKind.wrap_u64, IntKind.wrap_u64]; omega
theorem magnitude_any (n : Int) (w : World) (hl : -9223372036854775808 ≤ n) (hh : n ≤ 9223372036854775807) :
    Calls Try.prog 126 #[.int .i64 n] w fun e w' => e = .returned (.int .u64 (magA n)) ∧ w = w' := by
  by_cases h1 : n < 0
  · go_enter Try.func126, Try.ntmps126
    go_wp2
    go_ret
    exact ⟨by rw [magA_neg h1, ← u64_neg n hl h1]; rfl, rfl⟩
  · have h2 : 0 ≤ n := by omega
    go_enter Try.func126, Try.ntmps126
    go_wp2
    go_ret
    exact ⟨by rw [magA_pos h2]; rfl, rfl⟩
theorem nothing_any (w : World) :
    Calls Try.prog 135 #[] w fun e w' => e = .returned (.agg #[.int .i64 1, .int .i64 0, .int .i64 1, .bool false]) ∧ w.alloc (.cells #[.int .i64 1, .int .i64 0, .int .i64 1, .bool false] 122) = w' := by
  go_enter Try.func135, Try.ntmps135
  go_wp2
  exact bodyPost_ret (v := .agg #[.int .i64 1, .int .i64 0, .int .i64 1, .bool false]) (by simp [results, Try.results135, go_sem]) rfl ⟨rfl, rfl⟩
/-- a struct of three ints -/
theorem agg3_eq {a b c a' b' c' : Int} (h1 : a = a') (h2 : b = b') (h3 : c = c') : Ending.returned (.agg #[.int .i64 a, .int .i64 b, .int .i64 c]) = .returned (.agg #[.int .i64 a', .int .i64 b', .int .i64 c']) := by rw [h1, h2, h3]
set_option maxHeartbeats 400000 in
theorem normal_any (l h st : Int) (dn : Bool) (w : World) (h1 : -4000000000000 ≤ st) (h2 : st ≤ 4000000000000) :
    Calls Try.prog 127 #[.agg #[.int .i64 l, .int .i64 h, .int .i64 st, .bool dn]] w fun e w' => e = .returned (.agg #[.int .i64 (nL l h), .int .i64 (nH l h), .int .i64 (nS l h st dn)]) ∧ Below w.heap.size w w' := by
  by_cases c1 : h < l
  · have E := Lib.hid (show nL l h = 1 ∧ nH l h = 0 ∧ nS l h st dn = 1 from ⟨if_pos c1, if_pos c1, if_pos c1⟩)
    go_enter Try.func127, Try.ntmps127
    go_wp2_with (go_at_call 135; refine (nothing_any _).mono ?_; rintro e w' ⟨rfl, rfl⟩)
    refine bodyPost_ret (v := .agg #[.int .i64 1, .int .i64 0, .int .i64 1]) (by simp [results, Try.results127, go_sem]) rfl ⟨agg3_eq E.out.1.symm E.out.2.1.symm E.out.2.2.symm, ?_⟩
    repeat (first | exact Below.refl _ _ | refine Below.alloc ?_ (by simp; try omega) _ | refine Below.setCell ?_ (by simp; try omega) _)
  · by_cases c2 : l = h
    · subst c2
      have E := Lib.hid (show nL l l = l ∧ nH l l = l ∧ nS l l st dn = 1 from ⟨if_neg c1, if_neg c1, by unfold nS; rw [if_neg c1, if_pos rfl]⟩)
      go_enter Try.func127, Try.ntmps127
      go_wp2
      refine bodyPost_ret (v := .agg #[.int .i64 l, .int .i64 l, .int .i64 1]) (by simp [results, Try.results127, go_sem]) rfl ⟨agg3_eq E.out.1.symm E.out.2.1.symm E.out.2.2.symm, ?_⟩
      repeat (first | exact Below.refl _ _ | refine Below.alloc ?_ (by simp; try omega) _ | refine Below.setCell ?_ (by simp; try omega) _)
    · cases dn
      · have E := Lib.hid (show nL l h = l ∧ nH l h = h ∧ nS l h st false = st from ⟨if_neg c1, if_neg c1, by unfold nS; rw [if_neg c1, if_neg c2]; rfl⟩)
        go_enter Try.func127, Try.ntmps127
        go_wp2
        refine bodyPost_ret (v := .agg #[.int .i64 l, .int .i64 h, .int .i64 st]) (by simp [results, Try.results127, go_sem]) rfl ⟨agg3_eq E.out.1.symm E.out.2.1.symm E.out.2.2.symm, ?_⟩
        repeat (first | exact Below.refl _ _ | refine Below.alloc ?_ (by simp; try omega) _ | refine Below.setCell ?_ (by simp; try omega) _)
      · have E := Lib.hid (show nL l h = l ∧ nH l h = h ∧ nS l h st true = -st from ⟨if_neg c1, if_neg c1, by unfold nS; rw [if_neg c1, if_neg c2]; rfl⟩)
        go_enter Try.func127, Try.ntmps127
        go_wp2
        refine bodyPost_ret (v := .agg #[.int .i64 l, .int .i64 h, .int .i64 (-st)]) (by simp [results, Try.results127, go_sem]) rfl ⟨agg3_eq E.out.1.symm E.out.2.1.symm E.out.2.2.symm, ?_⟩
        repeat (first | exact Below.refl _ _ | refine Below.alloc ?_ (by simp; try omega) _ | refine Below.setCell ?_ (by simp; try omega) _)
set_option maxHeartbeats 400000 in
theorem size_any (l h st : Int) (dn : Bool) (w : World) (h0 : 1 ≤ st) (h1 : l ≤ h) (h2 : -4000000 ≤ l) (h3 : h ≤ 4000000) :
    Calls Try.prog 132 #[.agg #[.int .i64 l, .int .i64 h, .int .i64 st, .bool dn]] w fun e w' => e = .returned (.int .i64 ((h - l) / st + 1)) ∧ Below w.heap.size w w' := by
  have hd := IntWalk.tdiv_le (h - l) st (by omega) h0
  go_enter Try.func132, Try.ntmps132
  go_wp2
  go_ret
  refine ⟨rfl, ?_⟩
  repeat (first | exact Below.refl _ _ | refine Below.alloc ?_ (by simp; try omega) _ | refine Below.setCell ?_ (by simp; try omega) _)
set_option maxHeartbeats 400000 in
theorem size_empty (w : World) :
    Calls Try.prog 132 #[.agg #[.int .i64 1, .int .i64 0, .int .i64 1, .bool false]] w fun e w' => e = .returned (.int .i64 0) ∧ Below w.heap.size w w' := by
  go_enter Try.func132, Try.ntmps132
  go_wp2
  go_ret
  refine ⟨rfl, ?_⟩
  repeat (first | exact Below.refl _ _ | refine Below.alloc ?_ (by simp; try omega) _ | refine Below.setCell ?_ (by simp; try omega) _)
set_option maxHeartbeats 400000 in
theorem open_any (l h s : Int) (w : World) (h0 : -4000000 ≤ s) (h1 : s ≤ 4000000) :
    Calls Try.prog 131 #[.agg #[.int .i64 l, .int .i64 h, .int .i64 s]] w fun e w' => e = .returned (.agg #[.int .i64 l, .int .i64 h, .int .i64 (magA s), .bool (decide (s < 0))]) ∧ Below w.heap.size w w' := by
  have hm0 := magA_nonneg s
  have hm1 : magA s ≤ 4000000 := by unfold magA; split <;> omega
  have hw : IntKind.i64.wrap (magA s) = magA s := IntWalk.i64_in _ (by omega)
  go_enter Try.func131, Try.ntmps131
  go_wp2_with fail
  go_region_held3 (fun w' => w'.cell? ⟨w.heap.size, 0, none⟩ = some (.int .i64 l) ∧ w'.cell? ⟨w.heap.size, 1, none⟩ = some (.int .i64 h) ∧ w'.cell? ⟨w.heap.size, 2, none⟩ = some (.int .i64 s)) (go_keep) (first | (go_at_call 126; refine (magnitude_any _ _ (by omega) (by omega)).mono ?_; rintro e w' ⟨rfl, rfl⟩))
  clear hw
  go_wp2
  refine bodyPost_ret (v := .agg #[.int .i64 l, .int .i64 h, .int .i64 (magA s), .bool (decide (s < 0))]) (by simp [results, Try.results131, go_sem]) rfl ⟨rfl, ?_⟩
  repeat (first | exact Below.refl _ _ | refine Below.alloc ?_ (by simp; try omega) _ | refine Below.setCell ?_ (by simp; try omega) _ | refine Below.drew ?_)
end Go.Proofs.Ytcpeailodgoilaa
namespace Go.Proofs.Ytcpeailodgoilaa
open Go.RowKit Go.Op
theorem formed_div (l h s : Int) (h1 : l < h) (hl : -9223372036854775808 ≤ l) (hh : h ≤ 9223372036854775807) (_hs : s ≠ 0) :
    (IntKind.u64.wrap (IntKind.u64.wrap h - IntKind.u64.wrap l)).tmod (magA s) = (h - l) % s := by
  have e : IntKind.u64.wrap (IntKind.u64.wrap h - IntKind.u64.wrap l) = h - l := by
    rw [IntKind.wrap_u64, IntKind.wrap_u64, IntKind.wrap_u64]; omega
  rw [e, Int.tmod_eq_emod_of_nonneg (by omega)]
  unfold magA
  split
  · rw [Int.emod_neg]
  · rfl
/-- whether a range has the form of a single number, or of two or more -/
def fmd (l h s : Int) : Bool := decide ((l = h ∧ s = 1) ∨ (l < h ∧ s ≠ 0 ∧ (h - l) % s = 0))
set_option maxHeartbeats 400000 in
theorem formed_any (l h s : Int) (w : World) (hl : -9223372036854775808 ≤ l) (hh : h ≤ 9223372036854775807) (_hl2 : l ≤ 9223372036854775807) (hh2 : -9223372036854775808 ≤ h) (hs : -9223372036854775808 ≤ s) (hs2 : s ≤ 9223372036854775807) :
    Calls Try.prog 136 #[.agg #[.int .i64 l, .int .i64 h, .int .i64 s]] w fun e w' => e = .returned (.bool (fmd l h s)) ∧ Below w.heap.size w w' := by
  by_cases c1 : l = h
  · subst c1
    have E := Lib.hid (show fmd l l s = (s == 1) by unfold fmd; by_cases c : s = 1 <;> simp [c])
    go_enter Try.func136, Try.ntmps136
    go_wp2
    go_ret
    refine ⟨by rw [E.out]; rfl, ?_⟩
    repeat (first | exact Below.refl _ _ | refine Below.alloc ?_ (by simp; try omega) _ | refine Below.setCell ?_ (by simp; try omega) _ | refine Below.drew ?_)
  · have c0 : (l == h) = false := by simp [c1]
    by_cases c2 : l < h
    · by_cases c3 : s = 0
      · subst c3
        have E := Lib.hid (show fmd l h 0 = false by unfold fmd; simp [c1])
        have c4 : ((0 : Int) != 0) = false := by simp
        have c5 : decide (l < h) = true := by simp [c2]
        go_enter Try.func136, Try.ntmps136
        go_wp2_with fail
        go_quiet (fail)
        go_wp2
        go_ret
        refine ⟨by rw [E.out]; rfl, ?_⟩
        repeat (first | exact Below.refl _ _ | refine Below.alloc ?_ (by simp; try omega) _ | refine Below.setCell ?_ (by simp; try omega) _ | refine Below.drew ?_ | refine below_drewN ?_ _)
      · have E := Lib.hid (show fmd l h s = ((IntKind.u64.wrap (IntKind.u64.wrap h - IntKind.u64.wrap l)).tmod (magA s) == 0) by
          rw [formed_div l h s c2 hl hh c3]; unfold fmd; by_cases c : (h - l) % s = 0 <;> simp [c, c1, c2, c3])
        have c4 : (s != 0) = true := by simp [c3]
        have c5 : decide (l < h) = true := by simp [c2]
        have hm : ¬ magA s = 0 := by unfold magA; split <;> omega
        have hm' : (magA s == 0) = false := by simp [hm]
        go_enter Try.func136, Try.ntmps136
        go_wp2_with fail
        go_region_held3 (fun w' => w'.cell? ⟨w.heap.size, 0, none⟩ = some (.int .i64 l) ∧ w'.cell? ⟨w.heap.size, 1, none⟩ = some (.int .i64 h) ∧ w'.cell? ⟨w.heap.size, 2, none⟩ = some (.int .i64 s)) (go_keep) (first | (go_at_call 126; refine (magnitude_any _ _ (by omega) (by omega)).mono ?_; rintro e w' ⟨rfl, rfl⟩))
        go_wp2
        go_ret
        refine ⟨by rw [E.out]; rfl, ?_⟩
        repeat (first | exact Below.refl _ _ | refine Below.alloc ?_ (by simp; try omega) _ | refine Below.setCell ?_ (by simp; try omega) _ | refine Below.drew ?_)
    · have c5 : decide (l < h) = false := by simp; omega
      have E := Lib.hid (show fmd l h s = false by unfold fmd; simp [c1, c2])
      go_enter Try.func136, Try.ntmps136
      go_wp2_with fail
      go_quiet (fail)
      go_wp2
      go_ret
      refine ⟨by rw [E.out]; rfl, ?_⟩
      repeat (first | exact Below.refl _ _ | refine Below.alloc ?_ (by simp; try omega) _ | refine Below.setCell ?_ (by simp; try omega) _ | refine Below.drew ?_ | refine below_drewN ?_ _)
theorem bcell {W w1 : World} (hb : Below W.heap.size W w1) : (∀ b o, b < W.heap.size → w1.cell? ⟨b, o, none⟩ = W.cell? ⟨b, o, none⟩) ∧ (∀ b o, b < W.heap.size → w1.frozen? ⟨b, o, none⟩ = W.frozen? ⟨b, o, none⟩) :=
  ⟨fun b o h => hb.cell (p := ⟨b, o, none⟩) h, fun b o h => hb.frozen (p := ⟨b, o, none⟩) h⟩
/-- whether two ranges are equal -/
def reqB (a b c a' b' c' : Int) : Bool := decide (a = a' ∧ b = b' ∧ c = c')
theorem eq_range (a b c a' b' c' : Int) (w : World) : (binOp .eql 23 (.agg #[.int .i64 a, .int .i64 b, .int .i64 c]) (.agg #[.int .i64 a', .int .i64 b', .int .i64 c'])).run Try.prog w = .ok (.bool (reqB a b c a' b' c')) w := by
  unfold reqB
  by_cases h1 : a = a'
  · by_cases h2 : b = b'
    · by_cases h3 : c = c'
      · simp [go_sem, h1, h2, h3]
      · simp [go_sem, h1, h2, h3]
    · simp [go_sem, h1, h2]
  · simp [go_sem, h1]
theorem normal_nothing (w : World) :
    Calls Try.prog 127 #[.agg #[.int .i64 1, .int .i64 0, .int .i64 1, .bool false]] w fun e w' => e = .returned (.agg #[.int .i64 1, .int .i64 0, .int .i64 1]) ∧ Below w.heap.size w w' :=
  normal_any 1 0 1 false w (by omega) (by omega)
/-- the error of a range -/
def chk (l h s : Int) : Int := if reqB l h s 1 0 1 = true then 0 else if fmd l h s = false then 2 else if l < -1000000 ∨ 1000000 < h then 4 else 0
set_option maxHeartbeats 400000 in
theorem check_any (l h s : Int) (w : World) (hl : -9223372036854775808 ≤ l) (hh : h ≤ 9223372036854775807) (hl2 : l ≤ 9223372036854775807) (hh2 : -9223372036854775808 ≤ h) (hs : -9223372036854775808 ≤ s) (hs2 : s ≤ 9223372036854775807) :
    Calls Try.prog 26 #[.agg #[.int .i64 l, .int .i64 h, .int .i64 s]] w fun e w' => e = .returned (.int .i64 (chk l h s)) ∧ Below w.heap.size w w' := by
  have hq := eq_range l h s 1 0 1
  rcases hc : reqB l h s 1 0 1 with _ | _
  · rw [hc] at hq
    have HC := Lib.hid hc
    clear hc
    go_enter Try.func26, Try.ntmps26
    go_wp2_with fail
    go_region_held3 (fun w' => w'.cell? ⟨w.heap.size, 0, none⟩ = some (.int .i64 l) ∧ w'.cell? ⟨w.heap.size, 1, none⟩ = some (.int .i64 h) ∧ w'.cell? ⟨w.heap.size, 2, none⟩ = some (.int .i64 s)) (first | go_keep | (refine ⟨?_, ?_, ?_⟩ <;> (rw [hc1 _ _ (by simp; omega)]; go_keep))) (first | (go_at_call 135; refine (nothing_any _).mono ?_; rintro e w' ⟨rfl, rfl⟩) | (go_at_call 127; refine (normal_nothing _).mono ?_; rintro e w1 ⟨rfl, hb1⟩; obtain ⟨hc1, hf1⟩ := bcell hb1))
    rename_i hH
    obtain ⟨x0, x1, x2⟩ := hH
    have hsz : w.heap.size < w1.heap.size := by have := hb1.size; simp at this; omega
    have hw1 : Below w.heap.size w w1 := (((Below.refl _ _).alloc (Nat.le_refl _) _).alloc (by simp) _).drew.trans (hb1.mono (by simp; omega))
    clear hb1 hc1 hf1 hq
    rcases hf : fmd l h s with _ | _
    · have E := Lib.hid (show chk l h s = 2 by unfold chk; rw [HC.out, hf]; simp)
      go_wp2_with (go_at_call 136; refine (formed_any _ _ _ _ hl hh hl2 hh2 hs hs2).mono ?_; rintro e w2 ⟨rfl, hb2⟩)
      go_ret
      exact ⟨by rw [E.out]; rfl, hw1.trans (hb2.mono (by omega))⟩
    · have E := Lib.hid (show chk l h s = if l < -1000000 ∨ 1000000 < h then 4 else 0 by unfold chk; rw [HC.out, hf]; simp)
      go_wp2_with fail
      refine (formed_any _ _ _ _ hl hh hl2 hh2 hs hs2).mono ?_
      rintro e w2 ⟨rfl, hb2⟩
      have y0 := (hb2.cell (p := ⟨w.heap.size, 0, none⟩) hsz).trans x0
      have y1 := (hb2.cell (p := ⟨w.heap.size, 1, none⟩) hsz).trans x1
      have hw2 := Lib.hid (hw1.trans (hb2.mono (by omega)))
      clear x0 x1 x2 hb2 hw1 hsz HC
      by_cases c1 : l < -1000000
      · go_wp2
        go_ret
        exact ⟨by rw [E.out, if_pos (Or.inl c1)]; rfl, hw2.out⟩
      · by_cases c2 : 1000000 < h
        · go_wp2
          go_ret
          exact ⟨by rw [E.out, if_pos (Or.inr c2)]; rfl, hw2.out⟩
        · go_wp2
          go_ret
          exact ⟨by rw [E.out, if_neg (by omega)]; rfl, hw2.out⟩
  · rw [hc] at hq
    have E := Lib.hid (show chk l h s = 0 by unfold chk; rw [hc]; simp)
    clear hc
    go_enter Try.func26, Try.ntmps26
    go_wp2_with fail
    go_region_held3 (fun w' => w'.cell? ⟨w.heap.size, 0, none⟩ = some (.int .i64 l) ∧ w'.cell? ⟨w.heap.size, 1, none⟩ = some (.int .i64 h) ∧ w'.cell? ⟨w.heap.size, 2, none⟩ = some (.int .i64 s)) (first | go_keep | (refine ⟨?_, ?_, ?_⟩ <;> (rw [hc1 _ _ (by simp; omega)]; go_keep))) (first | (go_at_call 135; refine (nothing_any _).mono ?_; rintro e w' ⟨rfl, rfl⟩) | (go_at_call 127; refine (normal_nothing _).mono ?_; rintro e w1 ⟨rfl, hb1⟩; obtain ⟨hc1, hf1⟩ := bcell hb1))
    have hw1 : Below w.heap.size w w1 := (((Below.refl _ _).alloc (Nat.le_refl _) _).alloc (by simp) _).drew.trans (hb1.mono (by simp; omega))
    clear hb1 hc1 hf1 hq
    go_wp2
    go_ret
    exact ⟨by rw [E.out]; rfl, hw1⟩
end Go.Proofs.Ytcpeailodgoilaa
namespace Go.Proofs.Ytcpeailodgoilaa
open Go.RowKit
/-- an int's bounds -/
def I64 (n : Int) : Prop := -9223372036854775808 ≤ n ∧ n ≤ 9223372036854775807
theorem check64 (l h s : Int) (w : World) (hl : I64 l) (hh : I64 h) (hs : I64 s) :
    Calls Try.prog 26 #[.agg #[.int .i64 l, .int .i64 h, .int .i64 s]] w fun e w' => e = .returned (.int .i64 (chk l h s)) ∧ Below w.heap.size w w' :=
  check_any l h s w hl.1 hh.2 hl.2 hh.1 hs.1 hs.2
theorem check_ok (l h s : Int) (w : World) (hl : I64 l) (hh : I64 h) (hs : I64 s) (hk : Hid (chk l h s = 0)) :
    Calls Try.prog 26 #[.agg #[.int .i64 l, .int .i64 h, .int .i64 s]] w fun e w' => e = .returned (.int .i64 0) ∧ Below w.heap.size w w' :=
  (check64 l h s w hl hh hs).mono fun _ _ ⟨he, hb⟩ => ⟨by rw [he, hk.out], hb⟩
theorem box3 {w w1 : World} {t : TypeId} {a b c : Value} (hb : Below (w.alloc (.cells #[a, b, c] t)).heap.size (w.alloc (.cells #[a, b, c] t)) w1) :
    Hid (Below w.heap.size w w1) ∧ w.heap.size < w1.heap.size ∧ w1.cell? ⟨w.heap.size, 0, none⟩ = some a ∧ w1.cell? ⟨w.heap.size, 1, none⟩ = some b ∧ w1.cell? ⟨w.heap.size, 2, none⟩ = some c := by
  have hs : w.heap.size < (w.alloc (.cells #[a, b, c] t)).heap.size := by simp
  refine ⟨((Below.refl _ _).alloc (Nat.le_refl _) _).trans (hb.mono (by omega)), Nat.lt_of_lt_of_le hs hb.size, ?_, ?_, ?_⟩
  · rw [hb.cell (p := ⟨w.heap.size, 0, none⟩) hs]; simp [go_sem]
  · rw [hb.cell (p := ⟨w.heap.size, 1, none⟩) hs]; simp [go_sem]
  · rw [hb.cell (p := ⟨w.heap.size, 2, none⟩) hs]; simp [go_sem]
/-- two steps, the first one hidden -/
theorem hidTrans {B : Nat} {w w1 w2 : World} (h : Hid (Below B w w1)) (k : Below w1.heap.size w1 w2) (hB : B ≤ w1.heap.size) : Hid (Below B w w2) := h.out.trans (k.mono hB)
/-- what a right range is -/
theorem chk_zero {l h s : Int} (hk : chk l h s = 0) : (l = 1 ∧ h = 0 ∧ s = 1) ∨ (-1000000 ≤ l ∧ l ≤ h ∧ h ≤ 1000000 ∧ s ≠ 0 ∧ -2000000 ≤ s ∧ s ≤ 2000000 ∧ 1 ≤ magA s ∧ magA s ≤ 2000000 ∧ (h - l) % magA s = 0 ∧ (l = h → s = 1)) := by
  unfold chk at hk
  by_cases c1 : reqB l h s 1 0 1 = true
  · left; simpa [reqB] using c1
  · right
    rw [if_neg c1] at hk
    by_cases c2 : fmd l h s = false
    · rw [if_pos c2] at hk; omega
    · rw [if_neg c2] at hk
      have c3 : ¬ (l < -1000000 ∨ 1000000 < h) := by intro c3; rw [if_pos c3] at hk; omega
      have c4 : (l = h ∧ s = 1) ∨ (l < h ∧ s ≠ 0 ∧ (h - l) % s = 0) := by
        have : fmd l h s = true := by cases hf : fmd l h s <;> simp_all
        simpa [fmd] using this
      rcases c4 with ⟨rfl, rfl⟩ | ⟨c5, c6, c7⟩
      · exact ⟨by omega, by omega, by omega, by omega, by omega, by omega, by decide, by decide, by simp, fun _ => rfl⟩
      · have d : s ∣ h - l := Int.dvd_of_emod_eq_zero c7
        have hle : magA s ≤ h - l := by
          have : magA s ∣ h - l := by unfold magA; split; exact Int.neg_dvd.2 d; exact d
          exact Int.le_of_dvd (by omega) this
        have hdm : (h - l) % magA s = 0 := by
          unfold magA; split
          · rw [Int.emod_neg]; exact c7
          · exact c7
        have h1 : 1 ≤ magA s := by unfold magA; split <;> omega
        have h2 : -magA s ≤ s ∧ s ≤ magA s := by unfold magA; split <;> omega
        exact ⟨by omega, by omega, by omega, c6, by omega, by omega, h1, by omega, hdm, fun e => by omega⟩
/-- the number of numbers -/
def siz (l h s : Int) : Int := if chk l h s = 0 ∧ l ≤ h then (h - l) / magA s + 1 else 0
theorem open_empty (w : World) :
    Calls Try.prog 131 #[.agg #[.int .i64 1, .int .i64 0, .int .i64 1]] w fun e w' => e = .returned (.agg #[.int .i64 1, .int .i64 0, .int .i64 1, .bool false]) ∧ Below w.heap.size w w' :=
  (open_any 1 0 1 w (by omega) (by omega)).mono fun _ _ ⟨he, hb⟩ => ⟨he, hb⟩
set_option maxHeartbeats 400000 in
theorem size_bad (l h s : Int) (w : World) (hl : I64 l) (hh : I64 h) (hs : I64 s) (hk : ¬ chk l h s = 0) :
    Calls Try.prog 28 #[.agg #[.int .i64 l, .int .i64 h, .int .i64 s]] w fun e w' => e = .returned (.int .i64 0) ∧ Below w.heap.size w w' := by
  have hn : (chk l h s != 0) = true := by simp [hk]
  have hl := Lib.hid hl
  clear hk
  go_enter Try.func28, Try.ntmps28
  go_wp2_with fail
  refine (check64 l h s _ hl.out hh hs).mono ?_
  rintro e w1 ⟨rfl, hb1⟩
  obtain ⟨W1, -, -, -, -⟩ := box3 hb1
  clear hb1
  go_wp2
  go_ret
  exact ⟨rfl, W1.out⟩
set_option maxHeartbeats 400000 in
theorem Size_empty (w : World) :
    Calls Try.prog 28 #[.agg #[.int .i64 1, .int .i64 0, .int .i64 1]] w fun e w' => e = .returned (.int .i64 0) ∧ Below w.heap.size w w' := by
  go_enter Try.func28, Try.ntmps28
  go_wp2_with fail
  refine (check_ok 1 0 1 _ ⟨by omega, by omega⟩ ⟨by omega, by omega⟩ ⟨by omega, by omega⟩ (Lib.hid (show chk 1 0 1 = 0 by decide))).mono ?_
  rintro e w1 ⟨rfl, hb1⟩
  obtain ⟨W1, s1, x0, x1, x2⟩ := box3 hb1
  clear hb1
  go_wp2_with fail
  refine (open_empty _).mono ?_
  rintro e w2 ⟨rfl, hb2⟩
  have W2 := hidTrans W1 hb2 (by omega)
  have s2 := hb2.size
  clear hb2 W1 x0 x1 x2
  go_wp2_with fail
  refine (size_empty _).mono ?_
  rintro e w3 ⟨rfl, hb3⟩
  have W3 := hidTrans W2 hb3 (by omega)
  clear hb3 W2
  go_wp2
  go_ret
  exact ⟨rfl, W3.out⟩
set_option maxHeartbeats 400000 in
theorem size_ok (l h s : Int) (w : World) (hk : Hid (chk l h s = 0)) (hle : l ≤ h) :
    Calls Try.prog 28 #[.agg #[.int .i64 l, .int .i64 h, .int .i64 s]] w fun e w' => e = .returned (.int .i64 ((h - l) / magA s + 1)) ∧ Below w.heap.size w w' := by
  have hb : -1000000 ≤ l ∧ h ≤ 1000000 ∧ -2000000 ≤ s ∧ s ≤ 2000000 ∧ 1 ≤ magA s := by
    rcases chk_zero hk.out with ⟨rfl, rfl, rfl⟩ | ⟨a1, a2, a3, a4, a5, a6, a7, _⟩
    · omega
    · exact ⟨a1, a3, a5, a6, a7⟩
  obtain ⟨b1, b2, b3, b4, b5⟩ := hb
  go_enter Try.func28, Try.ntmps28
  go_wp2_with fail
  refine (check_ok l h s _ ⟨by omega, by omega⟩ ⟨by omega, by omega⟩ ⟨by omega, by omega⟩ hk).mono ?_
  rintro e w1 ⟨rfl, hb1⟩
  obtain ⟨W1, s1, x0, x1, x2⟩ := box3 hb1
  clear hb1
  go_wp2_with fail
  refine (open_any _ _ _ _ (by omega) (by omega)).mono ?_
  rintro e w2 ⟨rfl, hb2⟩
  have W2 := hidTrans W1 hb2 (by omega)
  have s2 := hb2.size
  clear hb2 W1 x0 x1 x2
  go_wp2_with fail
  refine (size_any _ _ _ _ _ b5 hle (by omega) (by omega)).mono ?_
  rintro e w3 ⟨rfl, hb3⟩
  have W3 := hidTrans W2 hb3 (by omega)
  clear hb3 W2
  go_wp2
  go_ret
  exact ⟨rfl, W3.out⟩
theorem Size_any (l h s : Int) (w : World) (hl : I64 l) (hh : I64 h) (hs : I64 s) :
    Calls Try.prog 28 #[.agg #[.int .i64 l, .int .i64 h, .int .i64 s]] w fun e w' => e = .returned (.int .i64 (siz l h s)) ∧ Below w.heap.size w w' := by
  by_cases hk : chk l h s = 0
  · by_cases hle : l ≤ h
    · exact (size_ok l h s w hk hle).mono fun _ _ ⟨he, hb⟩ => ⟨by rw [he]; unfold siz; rw [if_pos ⟨hk, hle⟩], hb⟩
    · rcases chk_zero hk with ⟨rfl, rfl, rfl⟩ | ⟨a1, a2, _⟩
      · exact (Size_empty w).mono fun _ _ ⟨he, hb⟩ => ⟨by rw [he]; rfl, hb⟩
      · omega
  · exact (size_bad l h s w hl hh hs hk).mono fun _ _ ⟨he, hb⟩ => ⟨by rw [he]; unfold siz; rw [if_neg (fun c => hk c.1)], hb⟩
end Go.Proofs.Ytcpeailodgoilaa
