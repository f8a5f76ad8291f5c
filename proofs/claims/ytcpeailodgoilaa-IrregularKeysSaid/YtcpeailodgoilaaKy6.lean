/-
  Part 6: IrS, IrT, IrU, SpanA.
-/
import Derived.Test.YtcpeailodgoilaaKy3
import Derived.Test.YtcpeailodgoilaaKy5
import Derived.BigQuiet
import Derived.Deep.AppendLies
import Derived.Deep.CutBlock
import Derived.Deep.DeepCutAuto
import Derived.Deep.DeepFit
import Derived.Deep.DrawnRows
import Derived.Deep.LoopGhost
import Derived.Deep.QuietTactic
import Derived.Deep.RegionHeld3
import Derived.Deep.RegionWith
import Derived.Laws.AppendOwnNone
import Derived.Lib.Hide
import Derived.Maps.AppendAt
import Derived.Test.YtcpeailodgoilaaRows
import Derived.WalkKit
import Derived.WalkLawsBesides
import Derived.WalkSpells
namespace Go.Proofs.Ytcpeailodgoilaa
open Go.RowKit
/-- what the reference's Add and Remove return -/
def RChgRet (keep : Bool → Bool → Bool) (bf : List Bs → Bs → Bool) (L : List Bs) (k : Bs) (w : World) : Ending → World → Prop := fun e w' => ∃ (v : Value) (b : Bool) (er : Int), e = .returned (.tuple #[v, .bool b, .int .i64 er]) ∧ Below w.heap.size w w' ∧
  Hid (er = oneE L k ∧ ((er = 0 ∧ b = bf L k ∧ Rs w' v (mg keep L [k])) ∨ (¬ er = 0 ∧ b = false ∧ v = .slice none 0 0)))
theorem oneE_ck {L : List Bs} {k : Bs} (h : oneE L k = 0) : ckE L = 0 := by
  unfold oneE at h
  split at h
  · assumption
  · exact h
theorem put_len {L : List Bs} (hA : Asc L) (k : Bs) : (mg kOr L [k]).length ≤ L.length + 1 := by
  rw [add_fresh hA]
  split <;> omega
set_option maxRecDepth 100000 in
set_option maxHeartbeats 6400000 in
theorem rAdd_any (v : Value) (L : List Bs) (k : Bs) (w : World) (hr : Rs w v L) (hz : ∀ c, v = .slice none 0 c → c = 0) (hn : L.length ≤ 2000) :
    Calls Try.prog 110 #[v, .string k] w (RChgRet kOr (fun L k => !decide (k ∈ L)) L k w) := by
  have HR := Lib.hid hr
  have HZ := Lib.hid hz
  obtain ⟨ao, cp, rfl, _, _⟩ := hr
  clear hz
  go_enter Try.func110, Try.ntmps110
  go_wp2_with fail
  refine (rone_any _ L k _ HR.out (by omega)).mono ?_
  rintro e w1 ⟨rfl, hb⟩
  have B1 := Lib.hid hb
  clear hb
  by_cases c : oneE L k = 0
  · have CE := Lib.hid c
    have AS := Lib.hid (ckE_zero (oneE_ck c)).2.2
    rw [c]
    clear c
    go_wp2_with fail
    refine (rput_any _ L k _ (HR.out.keep B1.out) HZ.out (by omega) AS.out).mono ?_
    rintro e w2 ⟨v2, rfl, hv, hb⟩
    have B2 := Lib.hid (B1.out.trans (hb.mono B1.out.size))
    have RV := Lib.hid hv.out.1
    have PL := Lib.hid (put_len AS.out k)
    clear hb hv
    obtain ⟨a2, c2, rfl, _, _⟩ := RV.out
    go_wp2_with fail
    refine (rlimited_any a2 _ c2 _ (by have := PL.out; omega)).mono ?_
    rintro e w3 ⟨rfl, rfl⟩
    go_wp2_with fail
    refine (rhas_any _ L k _ (HR.out.keep B2.out) (by omega)).mono ?_
    rintro e w4 ⟨rfl, rfl⟩
    go_wp2
    exact bodyPost_ret (v := .tuple #[.slice a2 (mg kOr L [k]).length c2, .bool (!decide (k ∈ L)), .int .i64 0]) (by simp [results, Try.results110, go_sem, *]) rfl ⟨_, _, _, rfl, B2.out, Lib.hid ⟨CE.out.symm, Or.inl ⟨rfl, rfl, RV.out⟩⟩⟩
  · obtain ⟨er, her⟩ : ∃ er, oneE L k = er := ⟨_, rfl⟩
    rw [her]
    rw [her] at c
    have CE := Lib.hid c
    have CX := Lib.hid her.symm
    clear her
    have c2 : (er != 0) = true := by simp [c]
    go_wp2
    exact bodyPost_ret (v := .tuple #[.slice none 0 0, .bool false, .int .i64 er]) (by simp [results, Try.results110, go_sem, *]) rfl ⟨_, _, _, rfl, B1.out, Lib.hid ⟨CX.out, Or.inr ⟨CE.out, rfl, rfl⟩⟩⟩
theorem rem_filter {L : List Bs} (hA : Asc L) (k : Bs) : L.filter (fun s => !decide (s = k)) = mg kLess L [k] := by
  refine asc_ext (hA.filter _) (mg_asc kLess L [k] hA (asc_one k)) (fun s => ?_)
  rw [mg_mem kLess L [k] hA (asc_one k)]
  simp only [List.mem_filter, List.mem_singleton, kLess]
  by_cases a : s ∈ L <;> by_cases b : s = k <;> simp [a, b]
set_option maxRecDepth 100000 in
set_option maxHeartbeats 6400000 in
theorem rRemove_any (v : Value) (L : List Bs) (k : Bs) (w : World) (hr : Rs w v L) (hn : L.length ≤ 2000) :
    Calls Try.prog 113 #[v, .string k] w (RChgRet kLess (fun L k => decide (k ∈ L)) L k w) := by
  have HR := Lib.hid hr
  obtain ⟨ao, cp, rfl, _, hc⟩ := hr
  have HC := Lib.hid hc
  clear hc
  obtain ⟨i0, hi, hz0, hz1, hz2⟩ := info_parts Try.infoStr
  go_enter Try.func113, Try.ntmps113
  go_wp2_with fail
  refine (rone_any _ L k _ HR.out (by omega)).mono ?_
  rintro e w1 ⟨rfl, hb⟩
  have B1 := Lib.hid hb
  clear hb
  by_cases c : oneE L k = 0
  · have CE := Lib.hid c
    have AS := Lib.hid (ckE_zero (oneE_ck c)).2.2
    rw [c]
    clear c
    go_upto_region 5 with fail
    have OW : Hid ((w1.alloc (.cells #[] 9)).ownsRow w.heap.size 9 1 (.slice (some ⟨w1.heap.size, 0, none⟩) 0 0) 0 []) := Lib.hid (World.ownsRow_lit w1 #[] 0 B1.out.size (by unfold maxLen; omega) (by simp))
    have B2 := Lib.hid (B1.out.trans ((i_below_new w1 (.cells #[] 9)).mono B1.out.size))
    generalize w1.alloc (.cells #[] 9) = w2 at *
    clear B1
    go_wp2_with fail
    go_loopg [8, 9] (L.length + 1) (fun gh v8 v9 wr => ∃ j : Nat, v9 = .int .i64 j ∧ (j ≤ L.length ∧ L.length - j < gh) ∧ Hid (wr.ownsRow w.heap.size 9 1 v8 ((L.take j).filter (fun s => !decide (s = k))).length (((L.take j).filter (fun s => !decide (s = k))).map Value.string)) ∧ Hid (Below w.heap.size w wr))
    case atStart => exact ⟨0, rfl, ⟨by omega, by omega⟩, Lib.hid (by simpa using OW.out), B2⟩
    case round =>
      obtain ⟨j, rfl, ⟨j0, jg⟩, OJ, BJ⟩ := hrel
      have KG := Lib.hid jg
      have FL : Hid (((L.take j).filter (fun s => !decide (s = k))).length ≤ j) := Lib.hid (Nat.le_trans (List.length_filter_le _ _) (by simp; omega))
      clear jg OW B2
      have NX : Hid (∀ s, L[j]? = some s → (L.take (j + 1)).filter (fun s => !decide (s = k)) = (L.take j).filter (fun s => !decide (s = k)) ++ if s = k then [] else [s]) := Lib.hid (fun s hs => by
        rw [List.take_add_one, hs, List.filter_append]
        by_cases e : s = k <;> simp [e])
      have FE : Hid (L.length ≤ j → (L.take j).filter (fun s => !decide (s = k)) = mg kLess L [k]) := Lib.hid (fun e => by rw [List.take_of_length_le e]; exact rem_filter AS.out k)
      generalize (L.take j).filter (fun s => !decide (s = k)) = M at *
      obtain ⟨oa, oc, rfl⟩ := i_own_slice OJ.out
      have jw : IntKind.i64.wrap ((j : Int) + 1) = (j : Int) + 1 := IntWalk.i64_in _ (by omega)
      by_cases hj : j < L.length
      · obtain ⟨s, hs⟩ : ∃ s, L[j]? = some s := ⟨L[j], List.getElem?_eq_getElem hj⟩
        obtain ⟨b, o, rfl, lt, cs⟩ := HC.out.resolve_left (by omega)
        have p0 := (BJ.out.cell (p := ⟨b, o + j, none⟩) lt).trans (cs j s hs)
        have N2 := Lib.hid (NX.out s hs)
        have jl : (j : Int) < (L.length : Int) := by omega
        clear hs cs NX FE
        by_cases z : s = k
        · have z' : (s.toList == k.toList) = true := (seq_iff s k).2 z
          have N3 := Lib.hid (N2.out.trans (by rw [if_pos z]))
          clear z
          go_wp2_with fail
          go_roundg (L.length - j)
          case measure => exact KG.out
          case rel => exact ⟨j + 1, by go_num, ⟨by omega, by omega⟩, Lib.hid (by rw [N3.out, List.append_nil]; exact OJ.out), BJ⟩
        · have z' : (s.toList == k.toList) = false := by
            have : ¬ (s.toList == k.toList) = true := fun h => z ((seq_iff s k).1 h)
            simpa using this
          have N3 := Lib.hid (N2.out.trans (by rw [if_neg z]))
          have fl := FL.out
          have sz := BJ.out.size
          clear z
          go_wp2_with (first | (at_builtin; refine wpList_append_own _ rfl (.tmp 29) (.tmp 34) 102 rfl w.heap.size 9 i0 (.string ⟨#[]⟩) 1 16 Try.underlying102 hi hz0 hz1 hz2 rfl (by decide) _ M.length (M.map Value.string) rfl (OJ.out.alloc _) ⟨wr.heap.size, 0, none⟩ 1 1 [.string s] rfl rfl (cell_one_new _ _ _) (strs_one [s]) (by unfold maxLen; omega) (by omega) (by simp; omega) ?_; intro v' w3 own2 grow2 hnil) | fail)
          go_roundg (L.length - j)
          case measure => exact KG.out
          case rel => exact ⟨j + 1, by go_num, ⟨by omega, by omega⟩, Lib.hid (by rw [N3.out]; simpa using own2), Lib.hid ((BJ.out.alloc BJ.out.size _).grown grow2 (by simp; omega) (fun g hg => (OJ.out.lt g hg).1))⟩
      · have FE2 := Lib.hid (FE.out (by omega))
        clear NX FE
        go_wp2_with fail
        refine (rhas_any _ L k _ (HR.out.keep BJ.out) (by omega)).mono ?_
        rintro e w4 ⟨rfl, rfl⟩
        go_wp2
        exact bodyPost_ret (v := .tuple #[.slice oa M.length oc, .bool (decide (k ∈ L)), .int .i64 0]) (by simp [results, Try.results113, go_sem, *]) rfl ⟨_, _, _, rfl, BJ.out, Lib.hid ⟨CE.out.symm, Or.inl ⟨rfl, rfl, by rw [← FE2.out]; exact Rs.of_own OJ.out⟩⟩⟩
  · obtain ⟨er, her⟩ : ∃ er, oneE L k = er := ⟨_, rfl⟩
    rw [her]
    rw [her] at c
    have CE := Lib.hid c
    have CX := Lib.hid her.symm
    clear her
    have c2 : (er != 0) = true := by simp [c]
    go_wp2
    exact bodyPost_ret (v := .tuple #[.slice none 0 0, .bool false, .int .i64 er]) (by simp [results, Try.results113, go_sem, *]) rfl ⟨_, _, _, rfl, B1.out, Lib.hid ⟨CX.out, Or.inr ⟨CE.out, rfl, rfl⟩⟩⟩
end Go.Proofs.Ytcpeailodgoilaa
namespace Go.Proofs.Ytcpeailodgoilaa
open Go.RowKit
/-- which keys are kept -/
def kk (f1 f2 f3 : Bool) (x y : Bool) : Bool := if x then (if y then f3 else f1) else (y && f2)
/-- the error of two lists of keys -/
def twoE (A B : List Bs) : Int := if ckE A = 0 then ckE B else ckE A
def RTwoRet (keep : Bool → Bool → Bool) (A B : List Bs) (w : World) : Ending → World → Prop := fun e w' => ∃ (v : Value) (er : Int), e = .returned (.tuple #[v, .int .i64 er]) ∧ Below w.heap.size w w' ∧
  Hid (er = twoE A B ∧ ((er = 0 ∧ Rs w' v (mg keep A B)) ∨ (¬ er = 0 ∧ v = .slice none 0 0)))
theorem put_mem {M : List Bs} (hA : Asc M) (k s : Bs) : s ∈ mg kOr M [k] ↔ s ∈ M ∨ s = k := by
  rw [mg_mem kOr M [k] hA (asc_one k)]
  simp only [List.mem_singleton, kOr]
  by_cases a : s ∈ M <;> by_cases b : s = k <;> simp [a, b]
/-- what stands after so many keys of the first list -/
structure St1 (f1 f3 : Bool) (A B : List Bs) (j : Nat) (M : List Bs) : Prop where
  len : M.length ≤ j
  asc : Asc M
  mem : ∀ s, s ∈ M ↔ s ∈ A.take j ∧ (if s ∈ B then f3 else f1) = true
theorem St1.zero (f1 f3 : Bool) (A B : List Bs) : St1 f1 f3 A B 0 [] := ⟨Nat.le_refl _, List.Pairwise.nil, fun s => by simp⟩
theorem take_mem {A : List Bs} {j : Nat} {k : Bs} (h : A[j]? = some k) (s : Bs) : s ∈ A.take (j + 1) ↔ s ∈ A.take j ∨ s = k := by
  rw [List.take_add_one, h]
  simp
theorem St1.put {f1 f3 : Bool} {A B : List Bs} {j : Nat} {M : List Bs} (t : St1 f1 f3 A B j M) {k : Bs} (h : A[j]? = some k) (c : (if k ∈ B then f3 else f1) = true) : St1 f1 f3 A B (j + 1) (mg kOr M [k]) := by
  refine ⟨by have := put_len t.asc k; have := t.len; omega, mg_asc kOr M [k] t.asc (asc_one k), fun s => ?_⟩
  rw [put_mem t.asc, t.mem, take_mem h]
  constructor
  · rintro (⟨a, b⟩ | rfl)
    · exact ⟨Or.inl a, b⟩
    · exact ⟨Or.inr rfl, c⟩
  · rintro ⟨a | rfl, b⟩
    · exact Or.inl ⟨a, b⟩
    · exact Or.inr rfl
theorem St1.skip {f1 f3 : Bool} {A B : List Bs} {j : Nat} {M : List Bs} (t : St1 f1 f3 A B j M) {k : Bs} (h : A[j]? = some k) (c : (if k ∈ B then f3 else f1) = false) : St1 f1 f3 A B (j + 1) M := by
  refine ⟨by have := t.len; omega, t.asc, fun s => ?_⟩
  rw [t.mem, take_mem h]
  constructor
  · rintro ⟨a, b⟩
    exact ⟨Or.inl a, b⟩
  · rintro ⟨a | rfl, b⟩
    · exact ⟨a, b⟩
    · rw [c] at b; cases b
/-- what stands after so many keys of the second list -/
structure St2 (f1 f2 f3 : Bool) (A B : List Bs) (j : Nat) (M : List Bs) : Prop where
  len : M.length ≤ A.length + j
  asc : Asc M
  mem : ∀ s, s ∈ M ↔ (s ∈ A ∧ (if s ∈ B then f3 else f1) = true) ∨ (s ∈ B.take j ∧ s ∉ A)
  no : f2 = false → j = 0
theorem St2.of {f1 f2 f3 : Bool} {A B : List Bs} {M : List Bs} {n : Nat} (hn : n = A.length) (t : St1 f1 f3 A B n M) : St2 f1 f2 f3 A B 0 M :=
  ⟨by have := t.len; omega, t.asc, fun s => by rw [t.mem, hn, List.take_length]; simp, fun _ => rfl⟩
theorem St2.put {f1 f2 f3 : Bool} {A B : List Bs} {j : Nat} {M : List Bs} (t : St2 f1 f2 f3 A B j M) {k : Bs} (h : B[j]? = some k) (c : k ∉ A) (hf : f2 = true) : St2 f1 f2 f3 A B (j + 1) (mg kOr M [k]) := by
  refine ⟨by have := put_len t.asc k; have := t.len; omega, mg_asc kOr M [k] t.asc (asc_one k), fun s => ?_, fun e => by rw [hf] at e; cases e⟩
  rw [put_mem t.asc, t.mem, take_mem h]
  constructor
  · rintro ((a | ⟨a, b⟩) | rfl)
    · exact Or.inl a
    · exact Or.inr ⟨Or.inl a, b⟩
    · exact Or.inr ⟨Or.inr rfl, c⟩
  · rintro (a | ⟨a | rfl, b⟩)
    · exact Or.inl (Or.inl a)
    · exact Or.inl (Or.inr ⟨a, b⟩)
    · exact Or.inr rfl
theorem St2.skip {f1 f2 f3 : Bool} {A B : List Bs} {j : Nat} {M : List Bs} (t : St2 f1 f2 f3 A B j M) {k : Bs} (h : B[j]? = some k) (c : k ∈ A) (hf : f2 = true) : St2 f1 f2 f3 A B (j + 1) M := by
  refine ⟨by have := t.len; omega, t.asc, fun s => ?_, fun e => by rw [hf] at e; cases e⟩
  rw [t.mem, take_mem h]
  constructor
  · rintro (a | ⟨a, b⟩)
    · exact Or.inl a
    · exact Or.inr ⟨Or.inl a, b⟩
  · rintro (a | ⟨a | rfl, b⟩)
    · exact Or.inl a
    · exact Or.inr ⟨a, b⟩
    · exact absurd c b
theorem St2.done {f1 f2 f3 : Bool} {A B : List Bs} {j : Nat} {M : List Bs} (t : St2 f1 f2 f3 A B j M) (hA : Asc A) (hB : Asc B) (e : B.length ≤ j ∨ f2 = false) : M = mg (kk f1 f2 f3) A B := by
  refine asc_ext t.asc (mg_asc _ A B hA hB) (fun s => ?_)
  rw [t.mem, mg_mem _ A B hA hB]
  have h2 : s ∈ B.take j ↔ s ∈ B ∧ f2 = true := by
    cases f2 with
    | false => rw [t.no rfl]; simp
    | true => rw [List.take_of_length_le (e.resolve_right (by simp))]; simp
  rw [h2]
  by_cases a : s ∈ A <;> by_cases b : s ∈ B <;> simp [a, b, kk]
set_option maxRecDepth 100000 in
set_option maxHeartbeats 12800000 in
theorem rkeys_any (va vb : Value) (A B : List Bs) (f1 f2 f3 : Bool) (w : World) (hra : Rs w va A) (hrb : Rs w vb B) (hn : A.length ≤ 1000 ∧ B.length ≤ 1000) :
    Calls Try.prog 195 #[va, vb, .bool f1, .bool f2, .bool f3] w (RTwoRet (kk f1 f2 f3) A B w) := by
  have HRA := Lib.hid hra
  have HRB := Lib.hid hrb
  have HN := Lib.hid hn
  obtain ⟨aa, ca, rfl, _, hca⟩ := hra
  obtain ⟨ab, cb, rfl, _, hcb⟩ := hrb
  have HCA := Lib.hid hca
  have HCB := Lib.hid hcb
  clear hca hcb
  go_enter Try.func195, Try.ntmps195
  go_wp2_with fail
  refine (rck_any _ A _ HRA.out (by omega)).mono ?_
  rintro e w1 ⟨rfl, hb⟩
  have B1 := Lib.hid hb
  clear hb
  by_cases ce : ckE A = 0
  · have CA := Lib.hid ce
    have AA := Lib.hid (ckE_zero ce).2.2
    rw [ce]
    clear ce
    go_wp2_with fail
    refine (rck_any _ B _ (HRB.out.keep B1.out) (by omega)).mono ?_
    rintro e w2 ⟨rfl, hb⟩
    have B2 := Lib.hid (B1.out.trans (hb.mono B1.out.size))
    clear hb B1
    by_cases ce : ckE B = 0
    · have CB := Lib.hid ce
      have AB := Lib.hid (ckE_zero ce).2.2
      rw [ce]
      clear ce
      go_upto_region 8 with fail
      have R3 : Hid (Rs (w2.alloc (.cells #[] 9)) (.slice (some ⟨w2.heap.size, 0, none⟩) 0 0) []) := Lib.hid ⟨_, _, rfl, Nat.le_refl _, Or.inl rfl⟩
      have B3 := Lib.hid (B2.out.trans ((i_below_new w2 (.cells #[] 9)).mono B2.out.size))
      generalize w2.alloc (.cells #[] 9) = w3 at *
      clear B2
      go_wp2_with fail
      go_loopg [14, 15, 16] (A.length + 1) (fun gh v14 v15 _ wr => ∃ (j : Nat) (M : List Bs), v15 = .int .i64 j ∧ (j ≤ A.length ∧ A.length - j < gh) ∧ Hid (St1 f1 f3 A B j M) ∧ Hid (Rs wr v14 M ∧ ∀ c, v14 = .slice none 0 c → c = 0) ∧ Hid (Below w.heap.size w wr))
      case atStart => exact ⟨0, [], rfl, ⟨by omega, by omega⟩, Lib.hid (St1.zero _ _ _ _), Lib.hid ⟨R3.out, fun c hc => by cases hc⟩, B3⟩
      case round =>
        obtain ⟨j, M, rfl, ⟨j0, jg⟩, ST, RM, BJ⟩ := hrel
        have KG := Lib.hid jg
        clear jg R3 B3
        obtain ⟨om, cm, rfl, _, _⟩ := RM.out.1
        have jw : IntKind.i64.wrap ((j : Int) + 1) = (j : Int) + 1 := IntWalk.i64_in _ (by omega)
        by_cases hj : j < A.length
        · obtain ⟨s, hs⟩ : ∃ s, A[j]? = some s := ⟨A[j], List.getElem?_eq_getElem hj⟩
          obtain ⟨b, o, rfl, lt, cs⟩ := HCA.out.resolve_left (by omega)
          have p0 := (BJ.out.cell (p := ⟨b, o + j, none⟩) lt).trans (cs j s hs)
          have HS := Lib.hid hs
          have jl : (j : Int) < (A.length : Int) := by omega
          clear hs cs
          go_wp2_with fail
          refine (rhas_any _ B s _ (HRB.out.keep BJ.out) (by omega)).mono ?_
          rintro e w4 ⟨rfl, rfl⟩
          have ML := Lib.hid ST.out.len
          by_cases z : s ∈ B
          · rw [decide_eq_true z]
            cases f3 with
            | true =>
              have S2 := Lib.hid (ST.out.put HS.out (by rw [if_pos z]))
              clear z
              go_wp2_with fail
              refine (rput_any _ M s _ RM.out.1 RM.out.2 (by have := ML.out; omega) ST.out.asc).mono ?_
              rintro e w5 ⟨v5, rfl, rv, hb⟩
              have B5 := Lib.hid (BJ.out.trans (hb.mono BJ.out.size))
              clear hb
              go_wp2_with fail
              go_roundg (A.length - j)
              case measure => exact KG.out
              case rel => exact ⟨j + 1, _, by go_num, ⟨by omega, by omega⟩, S2, rv, B5⟩
            | false =>
              have S2 := Lib.hid (ST.out.skip HS.out (by rw [if_pos z]))
              clear z
              go_wp2_with fail
              go_roundg (A.length - j)
              case measure => exact KG.out
              case rel => exact ⟨j + 1, _, by go_num, ⟨by omega, by omega⟩, S2, RM, BJ⟩
          · rw [decide_eq_false z]
            cases f1 with
            | true =>
              have S2 := Lib.hid (ST.out.put HS.out (by rw [if_neg z]))
              clear z
              go_wp2_with fail
              refine (rput_any _ M s _ RM.out.1 RM.out.2 (by have := ML.out; omega) ST.out.asc).mono ?_
              rintro e w5 ⟨v5, rfl, rv, hb⟩
              have B5 := Lib.hid (BJ.out.trans (hb.mono BJ.out.size))
              clear hb
              go_wp2_with fail
              go_roundg (A.length - j)
              case measure => exact KG.out
              case rel => exact ⟨j + 1, _, by go_num, ⟨by omega, by omega⟩, S2, rv, B5⟩
            | false =>
              have S2 := Lib.hid (ST.out.skip HS.out (by rw [if_neg z]))
              clear z
              go_wp2_with fail
              go_roundg (A.length - j)
              case measure => exact KG.out
              case rel => exact ⟨j + 1, _, by go_num, ⟨by omega, by omega⟩, S2, RM, BJ⟩
        · have S3 := Lib.hid (St2.of (f2 := f2) (by omega) ST.out)
          clear ST
          go_wp2_with fail
          go_loopg [14, 17] (B.length + 1) (fun gh v14 v17 wr => ∃ (j : Nat) (M : List Bs), v17 = .int .i64 j ∧ (j ≤ B.length ∧ B.length - j < gh) ∧ Hid (St2 f1 f2 f3 A B j M) ∧ Hid (Rs wr v14 M ∧ ∀ c, v14 = .slice none 0 c → c = 0) ∧ Hid (Below w.heap.size w wr))
          case atStart => exact ⟨0, M, rfl, ⟨by omega, by omega⟩, S3, RM, BJ⟩
          case round =>
            clear S3 RM BJ KG jw hj j0
            obtain ⟨j, M, rfl, ⟨j0, jg⟩, ST, RM, BJ⟩ := hrel
            have KG := Lib.hid jg
            clear jg
            obtain ⟨om, cm, rfl, _, _⟩ := RM.out.1
            have jw : IntKind.i64.wrap ((j : Int) + 1) = (j : Int) + 1 := IntWalk.i64_in _ (by omega)
            have ML := Lib.hid ST.out.len
            by_cases hj : j < B.length
            · cases f2 with
              | true =>
                obtain ⟨s, hs⟩ : ∃ s, B[j]? = some s := ⟨B[j], List.getElem?_eq_getElem hj⟩
                obtain ⟨b, o, rfl, lt, cs⟩ := HCB.out.resolve_left (by omega)
                have p0 := (BJ.out.cell (p := ⟨b, o + j, none⟩) lt).trans (cs j s hs)
                have HS := Lib.hid hs
                have jl : (j : Int) < (B.length : Int) := by omega
                clear hs cs
                go_wp2_with fail
                refine (rhas_any _ A s _ (HRA.out.keep BJ.out) (by omega)).mono ?_
                rintro e w4 ⟨rfl, rfl⟩
                by_cases z : s ∈ A
                · rw [decide_eq_true z]
                  have S2 := Lib.hid (ST.out.skip HS.out z rfl)
                  clear z
                  go_wp2_with fail
                  go_roundg (B.length - j)
                  case measure => exact KG.out
                  case rel => exact ⟨j + 1, _, by go_num, ⟨by omega, by omega⟩, S2, RM, BJ⟩
                · rw [decide_eq_false z]
                  have S2 := Lib.hid (ST.out.put HS.out z rfl)
                  clear z
                  go_wp2_with fail
                  refine (rput_any _ M s _ RM.out.1 RM.out.2 (by have := ML.out; have := HN.out; omega) ST.out.asc).mono ?_
                  rintro e w5 ⟨v5, rfl, rv, hb⟩
                  have B5 := Lib.hid (BJ.out.trans (hb.mono BJ.out.size))
                  clear hb
                  go_wp2_with fail
                  go_roundg (B.length - j)
                  case measure => exact KG.out
                  case rel => exact ⟨j + 1, _, by go_num, ⟨by omega, by omega⟩, S2, rv, B5⟩
              | false =>
                have ED := Lib.hid (ST.out.done AA.out AB.out (Or.inr rfl))
                go_wp2_with fail
                refine (rlimited_any om _ cm _ (by have := ML.out; have := HN.out; omega)).mono ?_
                rintro e w4 ⟨rfl, rfl⟩
                go_wp2
                exact bodyPost_ret (v := .tuple #[.slice om M.length cm, .int .i64 0]) (by simp [results, Try.results195, go_sem, *]) rfl ⟨_, _, rfl, BJ.out, Lib.hid ⟨by unfold twoE; rw [if_pos CA.out, CB.out], Or.inl ⟨rfl, by rw [← ED.out]; exact RM.out.1⟩⟩⟩
            · have ED := Lib.hid (ST.out.done AA.out AB.out (Or.inl (by omega)))
              go_wp2_with fail
              refine (rlimited_any om _ cm _ (by have := ML.out; have := HN.out; omega)).mono ?_
              rintro e w4 ⟨rfl, rfl⟩
              go_wp2
              exact bodyPost_ret (v := .tuple #[.slice om M.length cm, .int .i64 0]) (by simp [results, Try.results195, go_sem, *]) rfl ⟨_, _, rfl, BJ.out, Lib.hid ⟨by unfold twoE; rw [if_pos CA.out, CB.out], Or.inl ⟨rfl, by rw [← ED.out]; exact RM.out.1⟩⟩⟩
    · obtain ⟨er, her⟩ : ∃ er, ckE B = er := ⟨_, rfl⟩
      rw [her]
      rw [her] at ce
      have CE := Lib.hid ce
      have CX : Hid (er = twoE A B) := Lib.hid (by unfold twoE; rw [if_pos CA.out, her])
      clear her
      have c2 : (er != 0) = true := by simp [ce]
      go_wp2
      exact bodyPost_ret (v := .tuple #[.slice none 0 0, .int .i64 er]) (by simp [results, Try.results195, go_sem, *]) rfl ⟨_, _, rfl, B2.out, Lib.hid ⟨CX.out, Or.inr ⟨CE.out, rfl⟩⟩⟩
  · obtain ⟨er, her⟩ : ∃ er, ckE A = er := ⟨_, rfl⟩
    have CX : Hid (er = twoE A B) := Lib.hid (by unfold twoE; rw [if_neg ce, her])
    rw [her]
    rw [her] at ce
    have CE := Lib.hid ce
    clear her
    have c2 : (er != 0) = true := by simp [ce]
    go_wp2
    exact bodyPost_ret (v := .tuple #[.slice none 0 0, .int .i64 er]) (by simp [results, Try.results195, go_sem, *]) rfl ⟨_, _, rfl, B1.out, Lib.hid ⟨CX.out, Or.inr ⟨CE.out, rfl⟩⟩⟩
theorem kk_Join {A B : List Bs} (hA : Asc A) (hB : Asc B) : mg (kk true true true) A B = mg kOr A B := by
  refine asc_ext (mg_asc _ A B hA hB) (mg_asc _ A B hA hB) (fun s => ?_)
  rw [mg_mem _ A B hA hB, mg_mem _ A B hA hB]
  by_cases a : s ∈ A <;> by_cases b : s ∈ B <;> simp [a, b, kk, kOr]
set_option maxRecDepth 100000 in
theorem rJoin_any (va vb : Value) (A B : List Bs) (w : World) (hra : Rs w va A) (hrb : Rs w vb B) (hn : A.length ≤ 1000 ∧ B.length ≤ 1000) :
    Calls Try.prog 115 #[va, vb] w (RTwoRet (kk true true true) A B w) := by
  have HRA := Lib.hid hra
  have HRB := Lib.hid hrb
  obtain ⟨aa, ca, rfl, _, _⟩ := hra
  obtain ⟨ab, cb, rfl, _, _⟩ := hrb
  go_enter Try.func115, Try.ntmps115
  go_wp2_with fail
  refine (rkeys_any _ _ A B true true true _ HRA.out HRB.out hn).mono ?_
  rintro e w1 ⟨v, er, rfl, hb, hE⟩
  have HB := Lib.hid hb
  clear hb
  go_wp2
  exact bodyPost_ret (v := .tuple #[v, .int .i64 er]) (by simp [results, Try.results115, go_sem, *]) rfl ⟨_, _, rfl, HB.out, hE⟩
theorem kk_Meet {A B : List Bs} (hA : Asc A) (hB : Asc B) : mg (kk false false true) A B = mg kAnd A B := by
  refine asc_ext (mg_asc _ A B hA hB) (mg_asc _ A B hA hB) (fun s => ?_)
  rw [mg_mem _ A B hA hB, mg_mem _ A B hA hB]
  by_cases a : s ∈ A <;> by_cases b : s ∈ B <;> simp [a, b, kk, kAnd]
set_option maxRecDepth 100000 in
theorem rMeet_any (va vb : Value) (A B : List Bs) (w : World) (hra : Rs w va A) (hrb : Rs w vb B) (hn : A.length ≤ 1000 ∧ B.length ≤ 1000) :
    Calls Try.prog 117 #[va, vb] w (RTwoRet (kk false false true) A B w) := by
  have HRA := Lib.hid hra
  have HRB := Lib.hid hrb
  obtain ⟨aa, ca, rfl, _, _⟩ := hra
  obtain ⟨ab, cb, rfl, _, _⟩ := hrb
  go_enter Try.func117, Try.ntmps117
  go_wp2_with fail
  refine (rkeys_any _ _ A B false false true _ HRA.out HRB.out hn).mono ?_
  rintro e w1 ⟨v, er, rfl, hb, hE⟩
  have HB := Lib.hid hb
  clear hb
  go_wp2
  exact bodyPost_ret (v := .tuple #[v, .int .i64 er]) (by simp [results, Try.results117, go_sem, *]) rfl ⟨_, _, rfl, HB.out, hE⟩
theorem kk_Less {A B : List Bs} (hA : Asc A) (hB : Asc B) : mg (kk true false false) A B = mg kLess A B := by
  refine asc_ext (mg_asc _ A B hA hB) (mg_asc _ A B hA hB) (fun s => ?_)
  rw [mg_mem _ A B hA hB, mg_mem _ A B hA hB]
  by_cases a : s ∈ A <;> by_cases b : s ∈ B <;> simp [a, b, kk, kLess]
set_option maxRecDepth 100000 in
theorem rLess_any (va vb : Value) (A B : List Bs) (w : World) (hra : Rs w va A) (hrb : Rs w vb B) (hn : A.length ≤ 1000 ∧ B.length ≤ 1000) :
    Calls Try.prog 119 #[va, vb] w (RTwoRet (kk true false false) A B w) := by
  have HRA := Lib.hid hra
  have HRB := Lib.hid hrb
  obtain ⟨aa, ca, rfl, _, _⟩ := hra
  obtain ⟨ab, cb, rfl, _, _⟩ := hrb
  go_enter Try.func119, Try.ntmps119
  go_wp2_with fail
  refine (rkeys_any _ _ A B true false false _ HRA.out HRB.out hn).mono ?_
  rintro e w1 ⟨v, er, rfl, hb, hE⟩
  have HB := Lib.hid hb
  clear hb
  go_wp2
  exact bodyPost_ret (v := .tuple #[v, .int .i64 er]) (by simp [results, Try.results119, go_sem, *]) rfl ⟨_, _, rfl, HB.out, hE⟩
theorem kk_Odd {A B : List Bs} (hA : Asc A) (hB : Asc B) : mg (kk true true false) A B = mg kOdd A B := by
  refine asc_ext (mg_asc _ A B hA hB) (mg_asc _ A B hA hB) (fun s => ?_)
  rw [mg_mem _ A B hA hB, mg_mem _ A B hA hB]
  by_cases a : s ∈ A <;> by_cases b : s ∈ B <;> simp [a, b, kk, kOdd]
set_option maxRecDepth 100000 in
theorem rOdd_any (va vb : Value) (A B : List Bs) (w : World) (hra : Rs w va A) (hrb : Rs w vb B) (hn : A.length ≤ 1000 ∧ B.length ≤ 1000) :
    Calls Try.prog 121 #[va, vb] w (RTwoRet (kk true true false) A B w) := by
  have HRA := Lib.hid hra
  have HRB := Lib.hid hrb
  obtain ⟨aa, ca, rfl, _, _⟩ := hra
  obtain ⟨ab, cb, rfl, _, _⟩ := hrb
  go_enter Try.func121, Try.ntmps121
  go_wp2_with fail
  refine (rkeys_any _ _ A B true true false _ HRA.out HRB.out hn).mono ?_
  rintro e w1 ⟨v, er, rfl, hb, hE⟩
  have HB := Lib.hid hb
  clear hb
  go_wp2
  exact bodyPost_ret (v := .tuple #[v, .int .i64 er]) (by simp [results, Try.results121, go_sem, *]) rfl ⟨_, _, rfl, HB.out, hE⟩
end Go.Proofs.Ytcpeailodgoilaa
namespace Go.Proofs.Ytcpeailodgoilaa
open Go.RowKit
def addX (L : List Bs) (k : Bs) : List Bs := if oneE L k = 0 then mg kOr L [k] else []
def addB (L : List Bs) (k : Bs) : Bool := decide (oneE L k = 0) && !decide (k ∈ L)
def remX (L : List Bs) (k : Bs) : List Bs := if oneE L k = 0 then mg kLess L [k] else []
def remB (L : List Bs) (k : Bs) : Bool := decide (oneE L k = 0) && decide (k ∈ L)
def twoX (keep : Bool → Bool → Bool) (A B : List Bs) : List Bs := if twoE A B = 0 then mg keep A B else []
theorem rs_nil (w : World) : Rs w (.slice none 0 0) [] := ⟨_, _, rfl, Nat.le_refl _, Or.inl rfl⟩
theorem ck_one (k : Bs) : ckE [k] = if 100 < k.size then 7 else 0 := by
  unfold ckE
  rw [if_neg (by simp)]
  unfold ckF
  by_cases c : 100 < k.size
  · rw [if_pos c, if_pos c]
  · rw [if_neg c, if_neg c]
    simp [ckF]
theorem mg_le (keep : Bool → Bool → Bool) (a b : List Bs) : (mg keep a b).length ≤ a.length + b.length := mg_len_le keep a b
theorem comb_one (keep : Bool → Bool → Bool) (A : List Bs) (k : Bs) (h : A.length ≤ 100) : combE keep A [k] = oneE A k := by
  unfold combE oneE
  rw [ck_one]
  have := mg_le keep A [k]
  simp only [List.length_singleton] at this
  by_cases c : ckE A = 0
  · rw [if_pos c, if_pos c]
    by_cases d : 100 < k.size
    · rw [if_pos d]; rfl
    · rw [if_neg d, if_pos rfl, if_neg (by omega)]
  · rw [if_neg c, if_neg c]
theorem comb_two (keep : Bool → Bool → Bool) (A B : List Bs) (h : A.length ≤ 100 ∧ B.length ≤ 100) : combE keep A B = twoE A B := by
  unfold combE twoE
  have := mg_le keep A B
  by_cases c : ckE A = 0
  · rw [if_pos c, if_pos c]
    by_cases d : ckE B = 0
    · rw [if_pos d, if_neg (by omega), d]
    · rw [if_neg d]
  · rw [if_neg c, if_neg c]
theorem pAdd_use {A : List Bs} {k : Bs} {w' : World} {n : Nat} {v : Value} {b : Bool} {er : Int} (h : A.length ≤ 100)
    (hE : Hid (er = combE kOr A [k] ∧ ((er = 0 ∧ b = decide ((mg kOr A [k]).length ≠ A.length) ∧ w'.ownsRow n 9 1 v (mg kOr A [k]).length ((mg kOr A [k]).map Value.string)) ∨ (¬ er = 0 ∧ b = false ∧ v = .slice none 0 0)))) :
    er = oneE A k ∧ b = addB A k ∧ Hid (Rs w' v (addX A k)) := by
  obtain ⟨e, h2⟩ := hE.out
  rw [comb_one kOr A k h] at e
  refine ⟨e, ?_⟩
  rcases h2 with ⟨z, hb, o⟩ | ⟨z, hb, hv⟩
  · rw [z] at e
    have hA := (ckE_zero (oneE_ck e.symm)).2.2
    refine ⟨?_, Lib.hid (by unfold addX; rw [if_pos e.symm]; exact Rs.of_own o)⟩
    rw [hb]
    unfold addB
    rw [decide_eq_true e.symm, add_fresh hA]
    by_cases c : k ∈ A <;> simp [c]
  · rw [e] at z
    refine ⟨by rw [hb]; unfold addB; rw [decide_eq_false z]; rfl, Lib.hid (by unfold addX; rw [if_neg z, hv]; exact rs_nil _)⟩
theorem pRem_use {A : List Bs} {k : Bs} {w' : World} {n : Nat} {v : Value} {b : Bool} {er : Int} (h : A.length ≤ 100)
    (hE : Hid (er = combE kLess A [k] ∧ ((er = 0 ∧ b = decide ((mg kLess A [k]).length ≠ A.length) ∧ w'.ownsRow n 9 1 v (mg kLess A [k]).length ((mg kLess A [k]).map Value.string)) ∨ (¬ er = 0 ∧ b = false ∧ v = .slice none 0 0)))) :
    er = oneE A k ∧ b = remB A k ∧ Hid (Rs w' v (remX A k)) := by
  obtain ⟨e, h2⟩ := hE.out
  rw [comb_one kLess A k h] at e
  refine ⟨e, ?_⟩
  rcases h2 with ⟨z, hb, o⟩ | ⟨z, hb, hv⟩
  · rw [z] at e
    have hA := (ckE_zero (oneE_ck e.symm)).2.2
    refine ⟨?_, Lib.hid (by unfold remX; rw [if_pos e.symm]; exact Rs.of_own o)⟩
    rw [hb]
    unfold remB
    rw [decide_eq_true e.symm]
    have := rem_was hA k
    by_cases c : k ∈ A
    · rw [if_pos c] at this
      simp [c]; omega
    · rw [if_neg c] at this
      simp [c]; omega
  · rw [e] at z
    refine ⟨by rw [hb]; unfold remB; rw [decide_eq_false z]; rfl, Lib.hid (by unfold remX; rw [if_neg z, hv]; exact rs_nil _)⟩
theorem rAdd_use {A : List Bs} {k : Bs} {w' : World} {v : Value} {b : Bool} {er : Int} (hE : Hid (er = oneE A k ∧ ((er = 0 ∧ b = !decide (k ∈ A) ∧ Rs w' v (mg kOr A [k])) ∨ (¬ er = 0 ∧ b = false ∧ v = .slice none 0 0)))) :
    er = oneE A k ∧ b = addB A k ∧ Hid (Rs w' v (addX A k)) := by
  obtain ⟨e, h2⟩ := hE.out
  refine ⟨e, ?_⟩
  rcases h2 with ⟨z, hb, o⟩ | ⟨z, hb, hv⟩
  · rw [z] at e
    exact ⟨by rw [hb]; unfold addB; rw [decide_eq_true e.symm]; rfl, Lib.hid (by unfold addX; rw [if_pos e.symm]; exact o)⟩
  · rw [e] at z
    exact ⟨by rw [hb]; unfold addB; rw [decide_eq_false z]; rfl, Lib.hid (by unfold addX; rw [if_neg z, hv]; exact rs_nil _)⟩
theorem rRem_use {A : List Bs} {k : Bs} {w' : World} {v : Value} {b : Bool} {er : Int} (hE : Hid (er = oneE A k ∧ ((er = 0 ∧ b = decide (k ∈ A) ∧ Rs w' v (mg kLess A [k])) ∨ (¬ er = 0 ∧ b = false ∧ v = .slice none 0 0)))) :
    er = oneE A k ∧ b = remB A k ∧ Hid (Rs w' v (remX A k)) := by
  obtain ⟨e, h2⟩ := hE.out
  refine ⟨e, ?_⟩
  rcases h2 with ⟨z, hb, o⟩ | ⟨z, hb, hv⟩
  · rw [z] at e
    exact ⟨by rw [hb]; unfold remB; rw [decide_eq_true e.symm]; rfl, Lib.hid (by unfold remX; rw [if_pos e.symm]; exact o)⟩
  · rw [e] at z
    exact ⟨by rw [hb]; unfold remB; rw [decide_eq_false z]; rfl, Lib.hid (by unfold remX; rw [if_neg z, hv]; exact rs_nil _)⟩
theorem pTwo_use {keep : Bool → Bool → Bool} {A B : List Bs} {w' : World} {n : Nat} {v : Value} {er : Int} (h : A.length ≤ 100 ∧ B.length ≤ 100)
    (hE : Hid (er = combE keep A B ∧ ((er = 0 ∧ w'.ownsRow n 9 1 v (mg keep A B).length ((mg keep A B).map Value.string)) ∨ (¬ er = 0 ∧ v = .slice none 0 0)))) :
    er = twoE A B ∧ Hid (Rs w' v (twoX keep A B)) := by
  obtain ⟨e, h2⟩ := hE.out
  rw [comb_two keep A B h] at e
  refine ⟨e, ?_⟩
  rcases h2 with ⟨z, o⟩ | ⟨z, hv⟩
  · rw [z] at e
    exact Lib.hid (by unfold twoX; rw [if_pos e.symm]; exact Rs.of_own o)
  · rw [e] at z
    exact Lib.hid (by unfold twoX; rw [if_neg z, hv]; exact rs_nil _)
theorem twoE_asc {A B : List Bs} (h : twoE A B = 0) : Asc A ∧ Asc B := by
  unfold twoE at h
  split at h
  · rename_i a
    exact ⟨(ckE_zero a).2.2, (ckE_zero h).2.2⟩
  · contradiction
theorem rTwo_use {keep keep' : Bool → Bool → Bool} {A B : List Bs} {w' : World} {v : Value} {er : Int} (hk : Asc A → Asc B → mg keep' A B = mg keep A B)
    (hE : Hid (er = twoE A B ∧ ((er = 0 ∧ Rs w' v (mg keep' A B)) ∨ (¬ er = 0 ∧ v = .slice none 0 0)))) :
    er = twoE A B ∧ Hid (Rs w' v (twoX keep A B)) := by
  obtain ⟨e, h2⟩ := hE.out
  refine ⟨e, ?_⟩
  rcases h2 with ⟨z, o⟩ | ⟨z, hv⟩
  · rw [z] at e
    have q := twoE_asc e.symm
    exact Lib.hid (by unfold twoX; rw [if_pos e.symm, ← hk q.1 q.2]; exact o)
  · rw [e] at z
    exact Lib.hid (by unfold twoX; rw [if_neg z, hv]; exact rs_nil _)
theorem addX_len {A : List Bs} {k : Bs} (h : A.length ≤ 100) : (addX A k).length ≤ 100000 := by
  unfold addX
  have := mg_le kOr A [k]
  simp only [List.length_singleton] at this
  split <;> simp <;> omega
theorem remX_len {A : List Bs} {k : Bs} (h : A.length ≤ 100) : (remX A k).length ≤ 100000 := by
  unfold remX
  have := mg_le kLess A [k]
  simp only [List.length_singleton] at this
  split <;> simp <;> omega
theorem twoX_len {keep : Bool → Bool → Bool} {A B : List Bs} (h : A.length ≤ 100 ∧ B.length ≤ 100) : (twoX keep A B).length ≤ 100000 := by
  unfold twoX
  have := mg_le keep A B
  split <;> simp <;> omega
theorem three_cells {w : World} {va vb vk : Value} (t : TypeId) (A B K : List Bs) (ha : Rs w va A) (hb : Rs w vb B) (hk : Rs w vk K) : ∀ (j : Nat) (p : Value × List Bs), [(va, A), (vb, B), (vk, K)][j]? = some p → (w.alloc (.cells #[va, vb, vk] t)).cell? ⟨w.heap.size, 0 + j, none⟩ = some p.1 ∧ Rs (w.alloc (.cells #[va, vb, vk] t)) p.1 p.2 := fun j p hp => by
  have K : Below w.heap.size w (w.alloc (.cells #[va, vb, vk] t)) := (Below.refl _ w).alloc (Nat.le_refl _) _
  match j, hp with
  | 0, hp => cases hp; exact ⟨by simp [go_sem], ha.keep K⟩
  | 1, hp => cases hp; exact ⟨by simp [go_sem], hb.keep K⟩
  | 2, hp => cases hp; exact ⟨by simp [go_sem], hk.keep K⟩
  | j + 3, hp => simp at hp
set_option maxRecDepth 100000 in
set_option maxHeartbeats 25600000 in
theorem irrKeys_walk (haw : Hid (∀ w, Calls Try.prog 106 #[] w fun e w' => e = .returned (.bool true) ∧ Below w.heap.size w w')) (va vb : Value) (A B : List Bs) (k : Bs) (w : World) (hra : Rs w va A) (hrb : Rs w vb B)
    (za : ∀ c, va = .slice none 0 c → c = 0) :
    Calls Try.prog 18 #[va, vb, .string k] w fun e w' => e = .returned (.bool true) ∧ Below w.heap.size w w' := by
  have HA0 := Lib.hid hra
  have HB0 := Lib.hid hrb
  obtain ⟨oa, sa, rfl, _, _⟩ := hra
  obtain ⟨ob, sb, rfl, _, _⟩ := hrb
  have hra := HA0.out
  have hrb := HB0.out
  clear HA0 HB0
  have ZA := Lib.hid za
  clear za
  have K0 := i_below_new w (.cells #[.string k] 9)
  have T0 : Hid (Al w (.slice oa A.length sa) (.slice ob B.length sb) A B ((w.alloc (.cells #[.string k] 9)).alloc (.cells #[.slice oa A.length sa, .slice ob B.length sb, .slice (some ⟨w.heap.size, 0, none⟩) 1 1] 99))) := Lib.hid (Al.keep ⟨K0, hra.keep K0, hrb.keep K0⟩ (i_below_new _ _))
  have FK := fewKeys_any (w.heap.size + 1) 0 3 [(.slice oa A.length sa, A), (.slice ob B.length sb, B), (.slice (some ⟨w.heap.size, 0, none⟩) 1 1, [k])] _ (Lib.hid (by
    have h := three_cells (w := w.alloc (.cells #[.string k] 9)) 99 A B [k] (hra.keep K0) (hrb.keep K0) (rs_one k 9 w)
    rw [World.size_alloc] at h
    exact h)) (by simp)
  change Calls _ _ #[.slice (some ⟨w.heap.size + 1, 0, none⟩) 3 3] _ _ at FK
  clear hra hrb K0
  go_enter Try.func18, Try.ntmps18
  go_wp2_with fail
  refine FK.mono ?_
  rintro e w1 ⟨rfl, rfl⟩
  clear FK
  cases hf : fkB [(.slice oa A.length sa, A), (.slice ob B.length sb, B), (.slice (some ⟨w.heap.size, 0, none⟩) 1 1, [k])]
  · clear hf
    go_wp2_with fail
    refine (haw.out _).mono ?_
    rintro e y1 ⟨rfl, hb⟩
    have B := Lib.hid (T0.out.below.trans (hb.mono T0.out.below.size))
    clear hb T0
    go_wp2
    exact bodyPost_ret (v := .bool true) (by simp [results, Try.results18, go_sem, *]) rfl ⟨rfl, B.out⟩
  · have LA : Hid (A.length ≤ 100 ∧ B.length ≤ 100) := Lib.hid (by
      unfold fkB at hf
      simp at hf
      exact ⟨hf.1.1, hf.2.1.1⟩)
    clear hf
    generalize (w.alloc (.cells #[.string k] 9)).alloc (.cells #[.slice oa A.length sa, .slice ob B.length sb, .slice (some ⟨w.heap.size, 0, none⟩) 1 1] 99) = u0 at *
    go_wp2_with fail
    refine (checkKeys_any _ A _ T0.out.a (by have := LA.out; omega)).mono ?_
    rintro e w1 ⟨rfl, rfl⟩
    go_wp2_with fail
    refine (rck_any _ A _ T0.out.a (by have := LA.out; omega)).mono ?_
    rintro e w1 ⟨rfl, hb⟩
    have T1 := Lib.hid (T0.out.keep hb)
    clear hb T0
    generalize ckE A = ea at *
    go_wp2_with fail
    refine (Add_any _ A k _ T1.out.a (by have := LA.out; omega)).mono ?_
    rintro e w1 ⟨vRA, bRA, eRA, rfl, hb, hE⟩
    have T2 := Lib.hid (T1.out.keep hb)
    clear hb T1
    obtain ⟨rfl, rfl, RA⟩ := pAdd_use LA.out.1 hE
    clear hE
    obtain ⟨pRA, qRA, rfl, _, _⟩ := RA.out
    go_wp2_with fail
    refine (rAdd_any _ A k _ T2.out.a ZA.out (by have := LA.out; omega)).mono ?_
    rintro e w1 ⟨vRB, bRB, eRB, rfl, hb, hE⟩
    have T3 := Lib.hid (T2.out.keep hb)
    have RA := Lib.hid (RA.out.keep hb)
    clear hb T2
    obtain ⟨rfl, rfl, RB⟩ := rAdd_use hE
    clear hE
    obtain ⟨pRB, qRB, rfl, _, _⟩ := RB.out
    go_wp2_with fail
    refine (equalK_any _ _ _ _ _ RA.out RB.out ⟨addX_len LA.out.1, addX_len LA.out.1⟩).mono ?_
    rintro e w1 ⟨bb, rfl, hbb, hb⟩
    obtain rfl : bb = true := hbb.out.2 rfl
    clear hbb
    have T4 := Lib.hid (T3.out.keep hb)
    have RA := Lib.hid (RA.out.keep hb)
    have RB := Lib.hid (RB.out.keep hb)
    clear hb T3
    clear RA RB
    go_wp2_with fail
    refine (Remove_any _ A k _ T4.out.a (by have := LA.out; omega)).mono ?_
    rintro e w1 ⟨vRC, bRC, eRC, rfl, hb, hE⟩
    have T5 := Lib.hid (T4.out.keep hb)
    clear hb T4
    obtain ⟨rfl, rfl, RC⟩ := pRem_use LA.out.1 hE
    clear hE
    obtain ⟨pRC, qRC, rfl, _, _⟩ := RC.out
    go_wp2_with fail
    refine (rRemove_any _ A k _ T5.out.a (by have := LA.out; omega)).mono ?_
    rintro e w1 ⟨vRD, bRD, eRD, rfl, hb, hE⟩
    have T6 := Lib.hid (T5.out.keep hb)
    have RC := Lib.hid (RC.out.keep hb)
    clear hb T5
    obtain ⟨rfl, rfl, RD⟩ := rRem_use hE
    clear hE
    obtain ⟨pRD, qRD, rfl, _, _⟩ := RD.out
    go_wp2_with fail
    refine (equalK_any _ _ _ _ _ RC.out RD.out ⟨remX_len LA.out.1, remX_len LA.out.1⟩).mono ?_
    rintro e w1 ⟨bb, rfl, hbb, hb⟩
    obtain rfl : bb = true := hbb.out.2 rfl
    clear hbb
    have T7 := Lib.hid (T6.out.keep hb)
    have RC := Lib.hid (RC.out.keep hb)
    have RD := Lib.hid (RD.out.keep hb)
    clear hb T6
    clear RC RD
    go_wp2_with fail
    refine (Join_any _ _ A B _ T7.out.a T7.out.b (by have := LA.out; omega)).mono ?_
    rintro e w1 ⟨vRE, eRE, rfl, hb, hE⟩
    have T8 := Lib.hid (T7.out.keep hb)
    clear hb T7
    obtain ⟨rfl, RE⟩ := pTwo_use LA.out hE
    clear hE
    obtain ⟨pRE, qRE, rfl, _, _⟩ := RE.out
    go_wp2_with fail
    refine (rJoin_any _ _ A B _ T8.out.a T8.out.b (by have := LA.out; omega)).mono ?_
    rintro e w1 ⟨vRF, eRF, rfl, hb, hE⟩
    have T9 := Lib.hid (T8.out.keep hb)
    have RE := Lib.hid (RE.out.keep hb)
    clear hb T8
    obtain ⟨rfl, RF⟩ := rTwo_use (keep := kOr) kk_Join hE
    clear hE
    obtain ⟨pRF, qRF, rfl, _, _⟩ := RF.out
    go_wp2_with fail
    refine (Meet_any _ _ A B _ T9.out.a T9.out.b (by have := LA.out; omega)).mono ?_
    rintro e w1 ⟨vRG, eRG, rfl, hb, hE⟩
    have T10 := Lib.hid (T9.out.keep hb)
    have RE := Lib.hid (RE.out.keep hb)
    have RF := Lib.hid (RF.out.keep hb)
    clear hb T9
    obtain ⟨rfl, RG⟩ := pTwo_use LA.out hE
    clear hE
    obtain ⟨pRG, qRG, rfl, _, _⟩ := RG.out
    go_wp2_with fail
    refine (rMeet_any _ _ A B _ T10.out.a T10.out.b (by have := LA.out; omega)).mono ?_
    rintro e w1 ⟨vRH, eRH, rfl, hb, hE⟩
    have T11 := Lib.hid (T10.out.keep hb)
    have RE := Lib.hid (RE.out.keep hb)
    have RF := Lib.hid (RF.out.keep hb)
    have RG := Lib.hid (RG.out.keep hb)
    clear hb T10
    obtain ⟨rfl, RH⟩ := rTwo_use (keep := kAnd) kk_Meet hE
    clear hE
    obtain ⟨pRH, qRH, rfl, _, _⟩ := RH.out
    go_wp2_with fail
    refine (equalK_any _ _ _ _ _ RE.out RF.out ⟨twoX_len LA.out, twoX_len LA.out⟩).mono ?_
    rintro e w1 ⟨bb, rfl, hbb, hb⟩
    obtain rfl : bb = true := hbb.out.2 rfl
    clear hbb
    have T12 := Lib.hid (T11.out.keep hb)
    have RE := Lib.hid (RE.out.keep hb)
    have RF := Lib.hid (RF.out.keep hb)
    have RG := Lib.hid (RG.out.keep hb)
    have RH := Lib.hid (RH.out.keep hb)
    clear hb T11
    go_wp2_with fail
    refine (equalK_any _ _ _ _ _ RG.out RH.out ⟨twoX_len LA.out, twoX_len LA.out⟩).mono ?_
    rintro e w1 ⟨bb, rfl, hbb, hb⟩
    obtain rfl : bb = true := hbb.out.2 rfl
    clear hbb
    have T13 := Lib.hid (T12.out.keep hb)
    have RE := Lib.hid (RE.out.keep hb)
    have RF := Lib.hid (RF.out.keep hb)
    have RG := Lib.hid (RG.out.keep hb)
    have RH := Lib.hid (RH.out.keep hb)
    clear hb T12
    clear RE RF RG RH
    go_wp2_with fail
    refine (Less_any _ _ A B _ T13.out.a T13.out.b (by have := LA.out; omega)).mono ?_
    rintro e w1 ⟨vRI, eRI, rfl, hb, hE⟩
    have T14 := Lib.hid (T13.out.keep hb)
    clear hb T13
    obtain ⟨rfl, RI⟩ := pTwo_use LA.out hE
    clear hE
    obtain ⟨pRI, qRI, rfl, _, _⟩ := RI.out
    go_wp2_with fail
    refine (rLess_any _ _ A B _ T14.out.a T14.out.b (by have := LA.out; omega)).mono ?_
    rintro e w1 ⟨vRJ, eRJ, rfl, hb, hE⟩
    have T15 := Lib.hid (T14.out.keep hb)
    have RI := Lib.hid (RI.out.keep hb)
    clear hb T14
    obtain ⟨rfl, RJ⟩ := rTwo_use (keep := kLess) kk_Less hE
    clear hE
    obtain ⟨pRJ, qRJ, rfl, _, _⟩ := RJ.out
    go_wp2_with fail
    refine (Odd_any _ _ A B _ T15.out.a T15.out.b (by have := LA.out; omega)).mono ?_
    rintro e w1 ⟨vRK, eRK, rfl, hb, hE⟩
    have T16 := Lib.hid (T15.out.keep hb)
    have RI := Lib.hid (RI.out.keep hb)
    have RJ := Lib.hid (RJ.out.keep hb)
    clear hb T15
    obtain ⟨rfl, RK⟩ := pTwo_use LA.out hE
    clear hE
    obtain ⟨pRK, qRK, rfl, _, _⟩ := RK.out
    go_wp2_with fail
    refine (rOdd_any _ _ A B _ T16.out.a T16.out.b (by have := LA.out; omega)).mono ?_
    rintro e w1 ⟨vRL, eRL, rfl, hb, hE⟩
    have T17 := Lib.hid (T16.out.keep hb)
    have RI := Lib.hid (RI.out.keep hb)
    have RJ := Lib.hid (RJ.out.keep hb)
    have RK := Lib.hid (RK.out.keep hb)
    clear hb T16
    obtain ⟨rfl, RL⟩ := rTwo_use (keep := kOdd) kk_Odd hE
    clear hE
    obtain ⟨pRL, qRL, rfl, _, _⟩ := RL.out
    go_wp2_with fail
    refine (equalK_any _ _ _ _ _ RI.out RJ.out ⟨twoX_len LA.out, twoX_len LA.out⟩).mono ?_
    rintro e w1 ⟨bb, rfl, hbb, hb⟩
    obtain rfl : bb = true := hbb.out.2 rfl
    clear hbb
    have T18 := Lib.hid (T17.out.keep hb)
    have RI := Lib.hid (RI.out.keep hb)
    have RJ := Lib.hid (RJ.out.keep hb)
    have RK := Lib.hid (RK.out.keep hb)
    have RL := Lib.hid (RL.out.keep hb)
    clear hb T17
    go_wp2_with fail
    refine (equalK_any _ _ _ _ _ RK.out RL.out ⟨twoX_len LA.out, twoX_len LA.out⟩).mono ?_
    rintro e w1 ⟨bb, rfl, hbb, hb⟩
    obtain rfl : bb = true := hbb.out.2 rfl
    clear hbb
    have T19 := Lib.hid (T18.out.keep hb)
    have RI := Lib.hid (RI.out.keep hb)
    have RJ := Lib.hid (RJ.out.keep hb)
    have RK := Lib.hid (RK.out.keep hb)
    have RL := Lib.hid (RL.out.keep hb)
    clear hb T18
    clear RI RJ RK RL
    go_wp2_with fail
    refine (haw.out _).mono ?_
    rintro e y1 ⟨rfl, hb⟩
    have BF := Lib.hid (T19.out.keep hb).below
    clear hb T19
    go_wp2
    exact bodyPost_ret (v := .bool true) (by simp [results, Try.results18, go_sem, *]) rfl ⟨rfl, BF.out⟩
end Go.Proofs.Ytcpeailodgoilaa
namespace Go.Proofs.Ytcpeailodgoilaa
open Go.RowKit
/-- the absolute value -/
def magA (n : Int) : Int := if n < 0 then -n else n
theorem magA_nonneg (n : Int) : 0 ≤ magA n := by unfold magA; split <;> omega
theorem magA_neg {n : Int} (h : n < 0) : magA n = -n := by unfold magA; rw [if_pos h]
theorem magA_pos {n : Int} (h : 0 ≤ n) : magA n = n := by unfold magA; rw [if_neg (by omega)]
/-- the ends and the stride of the normal range -/
def nL (l h : Int) : Int := if h < l then 1 else l
def nH (l h : Int) : Int := if h < l then 0 else h
def nS (l h st : Int) (dn : Bool) : Int := if h < l then 1 else if l = h then 1 else if dn then -st else st
theorem u64_neg (n : Int) (h1 : -9223372036854775808 ≤ n) (h2 : n < 0) : IntKind.u64.wrap (-IntKind.u64.wrap n) = -n := by
  rw [IntKind.wrap_u64, IntKind.wrap_u64]; omega
theorem magnitude_any (n : Int) (w : World) (hl : -9223372036854775808 ≤ n) (hh : n ≤ 9223372036854775807) :
    Calls Try.prog 126 #[.int .i64 n] w fun e w' => e = .returned (.int .u64 (magA n)) ∧ w = w' := by
  by_cases h1 : n < 0
  · go_enter Try.func126, Try.ntmps126
    go_wp2
    go_ret
    exact ⟨by rw [magA_neg h1, ← u64_neg n hl h1]; rfl, rfl⟩
  · have h2 : 0 ≤ n := by omega
    go_enter Try.func126, Try.ntmps126
    go_wp2
    go_ret
    exact ⟨by rw [magA_pos h2]; rfl, rfl⟩
theorem nothing_any (w : World) :
    Calls Try.prog 135 #[] w fun e w' => e = .returned (.agg #[.int .i64 1, .int .i64 0, .int .i64 1, .bool false]) ∧ w.alloc (.cells #[.int .i64 1, .int .i64 0, .int .i64 1, .bool false] 122) = w' := by
  go_enter Try.func135, Try.ntmps135
  go_wp2
  exact bodyPost_ret (v := .agg #[.int .i64 1, .int .i64 0, .int .i64 1, .bool false]) (by simp [results, Try.results135, go_sem]) rfl ⟨rfl, rfl⟩
/-- a struct of three ints -/
theorem agg3_eq {a b c a' b' c' : Int} (h1 : a = a') (h2 : b = b') (h3 : c = c') : Ending.returned (.agg #[.int .i64 a, .int .i64 b, .int .i64 c]) = .returned (.agg #[.int .i64 a', .int .i64 b', .int .i64 c']) := by rw [h1, h2, h3]
set_option maxHeartbeats 400000 in
theorem normal_any (l h st : Int) (dn : Bool) (w : World) (h1 : -4000000000000 ≤ st) (h2 : st ≤ 4000000000000) :
    Calls Try.prog 127 #[.agg #[.int .i64 l, .int .i64 h, .int .i64 st, .bool dn]] w fun e w' => e = .returned (.agg #[.int .i64 (nL l h), .int .i64 (nH l h), .int .i64 (nS l h st dn)]) ∧ Below w.heap.size w w' := by
  by_cases c1 : h < l
  · have E := Lib.hid (show nL l h = 1 ∧ nH l h = 0 ∧ nS l h st dn = 1 from ⟨if_pos c1, if_pos c1, if_pos c1⟩)
    go_enter Try.func127, Try.ntmps127
    go_wp2_with (go_at_call 135; refine (nothing_any _).mono ?_; rintro e w' ⟨rfl, rfl⟩)
    refine bodyPost_ret (v := .agg #[.int .i64 1, .int .i64 0, .int .i64 1]) (by simp [results, Try.results127, go_sem]) rfl ⟨agg3_eq E.out.1.symm E.out.2.1.symm E.out.2.2.symm, ?_⟩
    repeat (first | exact Below.refl _ _ | refine Below.alloc ?_ (by simp; try omega) _ | refine Below.setCell ?_ (by simp; try omega) _)
  · by_cases c2 : l = h
    · subst c2
      have E := Lib.hid (show nL l l = l ∧ nH l l = l ∧ nS l l st dn = 1 from ⟨if_neg c1, if_neg c1, by unfold nS; rw [if_neg c1, if_pos rfl]⟩)
      go_enter Try.func127, Try.ntmps127
      go_wp2
      refine bodyPost_ret (v := .agg #[.int .i64 l, .int .i64 l, .int .i64 1]) (by simp [results, Try.results127, go_sem]) rfl ⟨agg3_eq E.out.1.symm E.out.2.1.symm E.out.2.2.symm, ?_⟩
      repeat (first | exact Below.refl _ _ | refine Below.alloc ?_ (by simp; try omega) _ | refine Below.setCell ?_ (by simp; try omega) _)
    · cases dn
      · have E := Lib.hid (show nL l h = l ∧ nH l h = h ∧ nS l h st false = st from ⟨if_neg c1, if_neg c1, by unfold nS; rw [if_neg c1, if_neg c2]; rfl⟩)
        go_enter Try.func127, Try.ntmps127
        go_wp2
        refine bodyPost_ret (v := .agg #[.int .i64 l, .int .i64 h, .int .i64 st]) (by simp [results, Try.results127, go_sem]) rfl ⟨agg3_eq E.out.1.symm E.out.2.1.symm E.out.2.2.symm, ?_⟩
        repeat (first | exact Below.refl _ _ | refine Below.alloc ?_ (by simp; try omega) _ | refine Below.setCell ?_ (by simp; try omega) _)
      · have E := Lib.hid (show nL l h = l ∧ nH l h = h ∧ nS l h st true = -st from ⟨if_neg c1, if_neg c1, by unfold nS; rw [if_neg c1, if_neg c2]; rfl⟩)
        go_enter Try.func127, Try.ntmps127
        go_wp2
        refine bodyPost_ret (v := .agg #[.int .i64 l, .int .i64 h, .int .i64 (-st)]) (by simp [results, Try.results127, go_sem]) rfl ⟨agg3_eq E.out.1.symm E.out.2.1.symm E.out.2.2.symm, ?_⟩
        repeat (first | exact Below.refl _ _ | refine Below.alloc ?_ (by simp; try omega) _ | refine Below.setCell ?_ (by simp; try omega) _)
set_option maxHeartbeats 400000 in
theorem size_any (l h st : Int) (dn : Bool) (w : World) (h0 : 1 ≤ st) (h1 : l ≤ h) (h2 : -4000000 ≤ l) (h3 : h ≤ 4000000) :
    Calls Try.prog 132 #[.agg #[.int .i64 l, .int .i64 h, .int .i64 st, .bool dn]] w fun e w' => e = .returned (.int .i64 ((h - l) / st + 1)) ∧ Below w.heap.size w w' := by
  have hd := IntWalk.tdiv_le (h - l) st (by omega) h0
  go_enter Try.func132, Try.ntmps132
  go_wp2
  go_ret
  refine ⟨rfl, ?_⟩
  repeat (first | exact Below.refl _ _ | refine Below.alloc ?_ (by simp; try omega) _ | refine Below.setCell ?_ (by simp; try omega) _)
set_option maxHeartbeats 400000 in
theorem size_empty (w : World) :
    Calls Try.prog 132 #[.agg #[.int .i64 1, .int .i64 0, .int .i64 1, .bool false]] w fun e w' => e = .returned (.int .i64 0) ∧ Below w.heap.size w w' := by
  go_enter Try.func132, Try.ntmps132
  go_wp2
  go_ret
  refine ⟨rfl, ?_⟩
  repeat (first | exact Below.refl _ _ | refine Below.alloc ?_ (by simp; try omega) _ | refine Below.setCell ?_ (by simp; try omega) _)
set_option maxHeartbeats 400000 in
theorem open_any (l h s : Int) (w : World) (h0 : -4000000 ≤ s) (h1 : s ≤ 4000000) :
    Calls Try.prog 131 #[.agg #[.int .i64 l, .int .i64 h, .int .i64 s]] w fun e w' => e = .returned (.agg #[.int .i64 l, .int .i64 h, .int .i64 (magA s), .bool (decide (s < 0))]) ∧ Below w.heap.size w w' := by
  have hm0 := magA_nonneg s
  have hm1 : magA s ≤ 4000000 := by unfold magA; split <;> omega
  have hw : IntKind.i64.wrap (magA s) = magA s := IntWalk.i64_in _ (by omega)
  go_enter Try.func131, Try.ntmps131
  go_wp2_with fail
  go_region_held3 (fun w' => w'.cell? ⟨w.heap.size, 0, none⟩ = some (.int .i64 l) ∧ w'.cell? ⟨w.heap.size, 1, none⟩ = some (.int .i64 h) ∧ w'.cell? ⟨w.heap.size, 2, none⟩ = some (.int .i64 s)) (go_keep) (first | (go_at_call 126; refine (magnitude_any _ _ (by omega) (by omega)).mono ?_; rintro e w' ⟨rfl, rfl⟩))
  clear hw
  go_wp2
  refine bodyPost_ret (v := .agg #[.int .i64 l, .int .i64 h, .int .i64 (magA s), .bool (decide (s < 0))]) (by simp [results, Try.results131, go_sem]) rfl ⟨rfl, ?_⟩
  repeat (first | exact Below.refl _ _ | refine Below.alloc ?_ (by simp; try omega) _ | refine Below.setCell ?_ (by simp; try omega) _ | refine Below.drew ?_)
end Go.Proofs.Ytcpeailodgoilaa
