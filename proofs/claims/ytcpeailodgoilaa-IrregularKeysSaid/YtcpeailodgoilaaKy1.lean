/-
  Part 1: Kit, IrM, IrA, IKit, IrB.
-/
import Derived.Below
import Derived.BigQuiet
import Derived.Carry
import Derived.ChangeMaps5
import Derived.ChangeSame
import Derived.Deep.CutBlock
import Derived.Deep.DeepCutAuto
import Derived.Deep.DeepFit
import Derived.Deep.DrawnRows
import Derived.Deep.LoopGhost
import Derived.Deep.QuietTactic
import Derived.Deep.RegionHeld3
import Derived.Deep.RegionWith
import Derived.Deep.Slices
import Derived.Deep.Strs
import Derived.Laws.Cover1
import Derived.Laws.Strings
import Derived.Lib.Hide
import Derived.Lib.SmallJoins
import Derived.OpenShut
import Derived.ProofKit
import Derived.Sort.Walk0
import Derived.Test.YtcpeailodgoilaaRows
import Derived.WalkKit
import Derived.WalkLawsBesides
import Derived.WalkSpells
namespace Go.Proofs.Ytcpeailodgoilaa
open Go.ChangeShapes Go.WideShapes Go.ChangeAt Go.RowKit Go.Joins
theorem Try.own : ownKnob Try.prog.godebug = none := by kernel_rfl
section
variable {H : Type} {enc : TypeId × Value → H} {P : Program}
theorem post_of_below {f : Func} {s : ChangeSpec} {apart fresh handsOn again : Bool} {W W' : World} {args : Array Value} {v : Value} {ds gs : List (DataW H)} {before pa pv : List MemPlace}
    (hW : DataW.Whole enc P f.params.toList s.vars apart W args.toList ds gs before)
    (hres : ∀ (b : Nat) (sp : Nat → Bool) (hd : Bool), DataW.TrodAll enc P W' b sp hd f.resultTypes.toList (v.resultList f.resultTypes.size) (s.fn H (ds ++ gs)).results [])
    (hargs : ∀ sp : Nat → Bool, (∀ p ∈ before, sp p.block = true) → DataW.TrodAll enc P W' 0 sp true f.params.toList args.toList (s.fn H (ds ++ gs)).args pa)
    (hvars : ∀ sp : Nat → Bool, (∀ p ∈ before, sp p.block = true) → DataW.TrodVars enc P W' sp s.vars (s.fn H (ds ++ gs)).vars pv)
    (hps : before = pa ++ pv) (hb : Below W.heap.size W W')
    (hok : ∀ (j : Nat) (t : TypeId) (r : Value), f.resultTypes[j]? = some t → (v.resultList f.resultTypes.size)[j]? = some r → Value.okWide P W' .any 0 t r) :
    s.post enc P f apart fresh handsOn again W args v W' := by
  have hlt : ∀ p ∈ before, p.block < W.heap.size := fun p hp => hW.lt p hp
  have hold : ∀ p ∈ before, (fun b => decide (b < W.heap.size)) p.block = true := fun p hp => by simpa using hlt p hp
  refine ⟨ds, gs, before, [], pa, pv, hW, hres _ _ _, hargs _ hold, hvars _ hold, World.keptBut_mono (fun p hp => ⟨hp, ?_⟩) (hb.frame (· ∈ before)), fun _ => ?_⟩
  · rw [hps, List.mem_append] at hp
    exact Or.inr hp
  · obtain ⟨_, _, _, _, _, hz, hn⟩ := hW
    refine ⟨hok, _, _, ([] ++ pa) ++ pv, ⟨[] ++ pa, pv, trodAll_append (hargs _ (fun _ _ => rfl)) (hres _ _ _), hvars _ (fun _ _ => rfl), rfl, ?_, ?_⟩, ?_⟩
    · intro b off hp
      have hin : MemPlace.cell b off ∈ before := by rw [hps]; simpa using hp
      rw [hb.frozen (hlt _ hin)]
      exact hz b off hin
    · intro ha
      have := hn ha
      rw [hps] at this
      simpa using this
    · intro p hp _
      rw [hps]
      simpa using hp
end
section
variable {H : Type} {enc : TypeId × Value → H} {w : World} {base : Nat} {spare : Nat → Bool} {held : Bool}
end
end Go.Proofs.Ytcpeailodgoilaa
namespace Go.Proofs.Ytcpeailodgoilaa
/-- a string -/
abbrev Bs := ByteArray
/-- the order of strings, as the program asks it -/
def slt (a b : Bs) : Bool := Op.bytesLess a.toList b.toList
def sle (a b : Bs) : Bool := Op.bytesLess a.toList b.toList || a.toList == b.toList
theorem slt_iff (a b : Bs) : slt a b = true ↔ a.data.toList < b.data.toList := by
  unfold slt
  rw [bytesLess_eq, Lib.toList_data, Lib.toList_data]
  simp
theorem bs_ext {a b : Bs} (h : a.data.toList = b.data.toList) : a = b := by
  cases a; cases b
  simp at h
  congr
instance decBs : DecidableEq Bs := fun a b => decidable_of_iff (a.data.toList = b.data.toList) ⟨bs_ext, fun h => h ▸ rfl⟩
instance decMem (s : Bs) (l : List Bs) : Decidable (s ∈ l) := decidable_of_iff ((l.any fun x => decide (s = x)) = true) (by simp)
theorem seq_iff (a b : Bs) : (a.toList == b.toList) = true ↔ a = b := by
  rw [Lib.toList_data, Lib.toList_data]
  constructor
  · intro h; exact bs_ext (by simpa using h)
  · rintro rfl; simp
theorem slt_irrefl (a : Bs) : slt a a = false := by
  have : ¬ slt a a = true := by rw [slt_iff]; exact List.lt_irrefl _
  simpa using this
theorem slt_trans {a b c : Bs} (h : slt a b = true) (k : slt b c = true) : slt a c = true := by
  rw [slt_iff] at *; exact List.lt_trans h k
theorem slt_asymm {a b : Bs} (h : slt a b = true) : slt b a = false := by
  have : ¬ slt b a = true := fun k => by have := slt_trans h k; rw [slt_irrefl] at this; cases this
  simpa using this
theorem slt_total {a b : Bs} (h : slt a b = false) (k : slt b a = false) : a = b := by
  have h' : ¬ a.data.toList < b.data.toList := by rw [← slt_iff]; simp [h]
  have k' : ¬ b.data.toList < a.data.toList := by rw [← slt_iff]; simp [k]
  exact bs_ext (List.le_antisymm (List.not_lt.1 k') (List.not_lt.1 h'))
theorem sle_eq (a b : Bs) : sle a b = !slt b a := by
  unfold sle
  cases h : slt b a
  · cases k : slt a b
    · have := slt_total h k; subst this
      simp
    · unfold slt at k; rw [k]; simp
  · have k := slt_asymm h
    unfold slt at k; rw [k]
    have : ¬ (a.toList == b.toList) = true := by
      rw [seq_iff]; rintro rfl; rw [slt_irrefl] at h; cases h
    simpa using this
/-- ascending, each once -/
def Asc (l : List Bs) : Prop := l.Pairwise fun a b => slt a b = true
theorem asc_ext : ∀ {l m : List Bs}, Asc l → Asc m → (∀ s, s ∈ l ↔ s ∈ m) → l = m
  | [], [], _, _, _ => rfl
  | [], y :: m, _, _, h => absurd ((h y).2 (by simp)) (by simp)
  | x :: l, [], _, _, h => absurd ((h x).1 (by simp)) (by simp)
  | x :: l, y :: m, hl, hm, h => by
    have hl' := List.pairwise_cons.1 hl
    have hm' := List.pairwise_cons.1 hm
    have e : x = y := by
      rcases List.mem_cons.1 ((h x).1 (by simp)) with e | e
      · exact e
      · rcases List.mem_cons.1 ((h y).2 (by simp)) with e2 | e2
        · exact e2.symm
        · have a := hm'.1 x e
          have b := hl'.1 y e2
          rw [slt_asymm a] at b; cases b
    subst e
    have : l = m := asc_ext hl'.2 hm'.2 fun s => by
      constructor
      · intro hs
        rcases List.mem_cons.1 ((h s).1 (List.mem_cons_of_mem _ hs)) with e | e
        · subst e; have := hl'.1 s hs; rw [slt_irrefl] at this; cases this
        · exact e
      · intro hs
        rcases List.mem_cons.1 ((h s).2 (List.mem_cons_of_mem _ hs)) with e | e
        · subst e; have := hm'.1 s hs; rw [slt_irrefl] at this; cases this
        · exact e
    rw [this]
/-- an element that is kept -/
def opt (b : Bool) (x : Bs) : List Bs := if b then [x] else []
/-- what merge makes of two lists -/
def mg (keep : Bool → Bool → Bool) : List Bs → List Bs → List Bs
  | [], [] => []
  | x :: a, [] => opt (keep true false) x ++ mg keep a []
  | [], y :: b => opt (keep false true) y ++ mg keep [] b
  | x :: a, y :: b =>
    if slt x y = true then opt (keep true false) x ++ mg keep a (y :: b)
    else if slt y x = true then opt (keep false true) y ++ mg keep (x :: a) b
    else opt (keep true true) y ++ mg keep a b
termination_by a b => a.length + b.length
theorem mem_opt {b : Bool} {x s : Bs} : s ∈ opt b x ↔ s = x ∧ b = true := by
  unfold opt; split <;> simp_all
theorem mg_sub (keep : Bool → Bool → Bool) (a b : List Bs) (s : Bs) : s ∈ mg keep a b → s ∈ a ∨ s ∈ b := by
  fun_induction mg keep a b with
  | case1 => simp
  | case2 x a ih =>
    intro h
    rcases List.mem_append.1 h with h | h
    · exact .inl (by rw [(mem_opt.1 h).1]; simp)
    · rcases ih h with h | h
      · exact .inl (List.mem_cons_of_mem _ h)
      · cases h
  | case3 y b ih =>
    intro h
    rcases List.mem_append.1 h with h | h
    · exact .inr (by rw [(mem_opt.1 h).1]; simp)
    · rcases ih h with h | h
      · cases h
      · exact .inr (List.mem_cons_of_mem _ h)
  | case4 x a y b c ih =>
    intro h
    rcases List.mem_append.1 h with h | h
    · exact .inl (by rw [(mem_opt.1 h).1]; simp)
    · exact (ih h).imp (List.mem_cons_of_mem _) id
  | case5 x a y b c d ih =>
    intro h
    rcases List.mem_append.1 h with h | h
    · exact .inr (by rw [(mem_opt.1 h).1]; simp)
    · exact (ih h).imp id (List.mem_cons_of_mem _)
  | case6 x a y b c d ih =>
    intro h
    rcases List.mem_append.1 h with h | h
    · exact .inr (by rw [(mem_opt.1 h).1]; simp)
    · exact (ih h).imp (List.mem_cons_of_mem _) (List.mem_cons_of_mem _)
theorem asc_tail {x : Bs} {l : List Bs} (h : Asc (x :: l)) : Asc l := (List.pairwise_cons.1 h).2
theorem asc_head {x : Bs} {l : List Bs} (h : Asc (x :: l)) : ∀ s ∈ l, slt x s = true := (List.pairwise_cons.1 h).1
theorem asc_opt {b : Bool} {x : Bs} {l : List Bs} (hl : Asc l) (h : ∀ s ∈ l, slt x s = true) : Asc (opt b x ++ l) := by
  unfold opt
  split
  · exact List.pairwise_cons.2 ⟨h, hl⟩
  · exact hl
theorem asc_low {z x : Bs} {l : List Bs} (h : Asc (x :: l)) (k : slt z x = true) : ∀ s ∈ x :: l, slt z s = true := fun s hs => by
  rcases List.mem_cons.1 hs with rfl | hs
  · exact k
  · exact slt_trans k (asc_head h s hs)
theorem mg_asc (keep : Bool → Bool → Bool) (a b : List Bs) : Asc a → Asc b → Asc (mg keep a b) := by
  fun_induction mg keep a b with
  | case1 => intro _ _; exact List.Pairwise.nil
  | case2 x a ih =>
    intro ha hb
    refine asc_opt (ih (asc_tail ha) hb) fun s hs => ?_
    rcases mg_sub _ _ _ _ hs with h | h
    · exact asc_head ha s h
    · cases h
  | case3 y b ih =>
    intro ha hb
    refine asc_opt (ih ha (asc_tail hb)) fun s hs => ?_
    rcases mg_sub _ _ _ _ hs with h | h
    · cases h
    · exact asc_head hb s h
  | case4 x a y b c ih =>
    intro ha hb
    refine asc_opt (ih (asc_tail ha) hb) fun s hs => ?_
    rcases mg_sub _ _ _ _ hs with h | h
    · exact asc_head ha s h
    · exact asc_low hb c s h
  | case5 x a y b c d ih =>
    intro ha hb
    refine asc_opt (ih ha (asc_tail hb)) fun s hs => ?_
    rcases mg_sub _ _ _ _ hs with h | h
    · exact asc_low ha d s h
    · exact asc_head hb s h
  | case6 x a y b c d ih =>
    intro ha hb
    have e : x = y := slt_total (by simpa using c) (by simpa using d)
    subst e
    refine asc_opt (ih (asc_tail ha) (asc_tail hb)) fun s hs => ?_
    rcases mg_sub _ _ _ _ hs with h | h
    · exact asc_head ha s h
    · exact asc_head hb s h
theorem not_mem_low {x : Bs} {l : List Bs} (h : ∀ s ∈ l, slt x s = true) : x ∉ l := fun k => by
  have := h x k; rw [slt_irrefl] at this; cases this
theorem mg_mem (keep : Bool → Bool → Bool) (a b : List Bs) : Asc a → Asc b → ∀ s, (s ∈ mg keep a b ↔ (s ∈ a ∨ s ∈ b) ∧ keep (decide (s ∈ a)) (decide (s ∈ b)) = true) := by
  fun_induction mg keep a b with
  | case1 => intro _ _ s; simp
  | case2 x a ih =>
    intro ha hb s
    have n := not_mem_low (asc_head ha)
    rw [List.mem_append, mem_opt, ih (asc_tail ha) hb s]
    by_cases e : s = x
    · subst e; simp [n]
    · simp [e]
  | case3 y b ih =>
    intro ha hb s
    have n := not_mem_low (asc_head hb)
    rw [List.mem_append, mem_opt, ih ha (asc_tail hb) s]
    by_cases e : s = y
    · subst e; simp [n]
    · simp [e]
  | case4 x a y b c ih =>
    intro ha hb s
    have n := not_mem_low (asc_head ha)
    have m := not_mem_low (asc_low hb c)
    rw [List.mem_append, mem_opt, ih (asc_tail ha) hb s]
    by_cases e : s = x
    · subst e
      simp only [n, m, decide_false, List.mem_cons_self, decide_true]
      simp
    · simp only [List.mem_cons (a := s) (b := x), e, false_or, false_and]
  | case5 x a y b c d ih =>
    intro ha hb s
    have n := not_mem_low (asc_head hb)
    have m := not_mem_low (asc_low ha d)
    rw [List.mem_append, mem_opt, ih ha (asc_tail hb) s]
    by_cases e : s = y
    · subst e
      simp only [n, m, decide_false, List.mem_cons_self, decide_true]
      simp
    · simp only [List.mem_cons (a := s) (b := y), e, false_or, false_and]
  | case6 x a y b c d ih =>
    intro ha hb s
    have e : x = y := slt_total (by simpa using c) (by simpa using d)
    subst e
    have n := not_mem_low (asc_head ha)
    have m := not_mem_low (asc_head hb)
    rw [List.mem_append, mem_opt, ih (asc_tail ha) (asc_tail hb) s]
    by_cases e : s = x
    · subst e
      simp only [n, m, decide_false, List.mem_cons_self, decide_true]
      simp
    · simp only [List.mem_cons (a := s) (b := x), e, false_or, false_and]
theorem opt_len (b : Bool) (x : Bs) : (opt b x).length = if b then 1 else 0 := by unfold opt; split <;> rfl
def kOr (x y : Bool) : Bool := x || y
def kAnd (x y : Bool) : Bool := x && y
def kLess (x y : Bool) : Bool := x && !y
def kOdd (x y : Bool) : Bool := x != y
theorem mg_len_or (a b : List Bs) : (mg kOr a b).length + (mg kAnd a b).length = a.length + b.length := by
  fun_induction mg kOr a b with
  | case1 => simp [mg]
  | case2 x a ih => simp [mg, opt_len, kOr, kAnd] at *; omega
  | case3 y b ih => simp [mg, opt_len, kOr, kAnd] at *; omega
  | case4 x a y b c ih => simp [mg, c, opt_len, kOr, kAnd] at *; omega
  | case5 x a y b c d ih => simp [mg, c, d, opt_len, kOr, kAnd] at *; omega
  | case6 x a y b c d ih => simp [mg, c, d, opt_len, kOr, kAnd] at *; omega
theorem mg_len_less (a b : List Bs) : (mg kLess a b).length + (mg kAnd a b).length = a.length := by
  fun_induction mg kLess a b with
  | case1 => simp [mg]
  | case2 x a ih => simp [mg, opt_len, kLess, kAnd] at *; omega
  | case3 y b ih => simp [mg, opt_len, kLess, kAnd] at *; omega
  | case4 x a y b c ih => simp [mg, c, opt_len, kLess, kAnd] at *; omega
  | case5 x a y b c d ih => simp [mg, c, d, opt_len, kLess, kAnd] at *; omega
  | case6 x a y b c d ih => simp [mg, c, d, opt_len, kLess, kAnd] at *; omega
theorem asc_one (k : Bs) : Asc [k] := List.pairwise_singleton _ _
theorem and_one {a : List Bs} (ha : Asc a) (k : Bs) : (mg kAnd a [k]).length = if k ∈ a then 1 else 0 := by
  split
  · rename_i h
    have : mg kAnd a [k] = [k] := asc_ext (mg_asc _ _ _ ha (asc_one k)) (asc_one k) fun s => by
      rw [mg_mem _ _ _ ha (asc_one k)]
      by_cases e : s = k
      · subst e; simp [h, kAnd]
      · simp [e, kAnd]
    rw [this]; rfl
  · rename_i h
    have : mg kAnd a [k] = [] := asc_ext (mg_asc _ _ _ ha (asc_one k)) List.Pairwise.nil fun s => by
      rw [mg_mem _ _ _ ha (asc_one k)]
      by_cases e : s = k
      · subst e; simp [h, kAnd]
      · simp [e, kAnd]
    rw [this]; rfl
/-- Add: whether the key is new -/
theorem add_fresh {a : List Bs} (ha : Asc a) (k : Bs) : (mg kOr a [k]).length = a.length + if k ∈ a then 0 else 1 := by
  have h := mg_len_or a [k]
  rw [and_one ha k] at h
  split at h <;> rename_i c <;> simp [c] at * <;> omega
theorem rem_was {a : List Bs} (ha : Asc a) (k : Bs) : (mg kLess a [k]).length + (if k ∈ a then 1 else 0) = a.length := by
  have h := mg_len_less a [k]
  rw [and_one ha k] at h
  exact h
theorem add_same {a : List Bs} (ha : Asc a) {k : Bs} (hk : k ∈ a) : mg kOr a [k] = a :=
  asc_ext (mg_asc _ _ _ ha (asc_one k)) ha fun s => by
    rw [mg_mem _ _ _ ha (asc_one k)]
    by_cases e : s = k
    · subst e; simp [hk, kOr]
    · simp [e, kOr]
end Go.Proofs.Ytcpeailodgoilaa
namespace Go.Proofs.Ytcpeailodgoilaa
open Go.RowKit
/-- a slice of strings reads as a list -/
def Rs (w : World) (v : Value) (L : List Bs) : Prop := ∃ (ao : Option Addr) (cap : Nat), v = .slice ao L.length cap ∧ L.length ≤ cap ∧ (L.length = 0 ∨ ∃ b o : Nat, ao = some ⟨b, o, none⟩ ∧ b < w.heap.size ∧
  ∀ (j : Nat) (s : Bs), L[j]? = some s → w.cell? ⟨b, o + j, none⟩ = some (.string s))
theorem Rs.keep {w w' : World} {v : Value} {L : List Bs} (r : Rs w v L) (hb : Below w.heap.size w w') : Rs w' v L := by
  obtain ⟨ao, cap, e, hc, h⟩ := r
  refine ⟨ao, cap, e, hc, h.imp id ?_⟩
  rintro ⟨b, o, e, hlt, hc⟩
  exact ⟨b, o, e, Nat.lt_of_lt_of_le hlt hb.size, fun j p hp => (hb.cell (p := ⟨b, o + j, none⟩) hlt).trans (hc j p hp)⟩
theorem Rs.of_own {w : World} {base : Nat} {v : Value} {L : List Bs} (h : w.ownsRow base 9 1 v L.length (L.map Value.string)) : Rs w v L := by
  rcases h.2 with ⟨rfl, e⟩ | ⟨g, cap, cur, rfl, _, hg, hl, _, hs, ht⟩
  · exact ⟨none, 0, by rw [e], by omega, .inl e⟩
  · refine ⟨some ⟨g, 0, none⟩, cap, rfl, hl, .inr ⟨g, 0, rfl, (Array.getElem?_eq_some_iff.1 hg).1, fun j p hp => ?_⟩⟩
    have lt := (List.getElem?_eq_some_iff.1 hp).1
    have hu : (L.map Value.string)[j]? = some (.string p) := by simp [hp]
    rw [← ht, List.getElem?_take, if_pos (by omega)] at hu
    simp [World.cell?, hg]
    simpa using hu
theorem i_own_slice {w : World} {base : Nat} {e : TypeId} {size : Nat} {v : Value} {n : Nat} {xs : List Value} (h : w.ownsRow base e size v n xs) : ∃ ao cap, v = .slice ao n cap := by
  rcases h.2 with ⟨rfl, rfl⟩ | ⟨g, cap, cur, rfl, _⟩
  · exact ⟨none, 0, rfl⟩
  · exact ⟨_, cap, rfl⟩
theorem i_own_below {w w' : World} {base : Nat} {e : TypeId} {size : Nat} {v : Value} {n : Nat} {xs : List Value} (h : w.ownsRow base e size v n xs) (hb : Below w.heap.size w w') : w'.ownsRow base e size v n xs := by
  refine ⟨h.1, ?_⟩
  rcases h.2 with hn | ⟨g, cap, cur, rfl, hg, hgg, rest⟩
  · exact Or.inl hn
  · exact Or.inr ⟨g, cap, cur, rfl, hg, by rw [hb.block g (Array.getElem?_eq_some_iff.1 hgg).1]; exact hgg, rest⟩
theorem Try.infoStr : (Try.prog.info? 9).map (fun i => (i.zero, i.size, i.bytes)) = some (some (.string ⟨#[]⟩), 1, 16) := by kernel_rfl
/-- whether one is longer than 200 bytes -/
def anyLong (L : List Bs) : Bool := L.any fun s => decide (200 < s.size)
theorem long_any (s : Bs) (w : World) : Calls Try.prog 183 #[.string s] w fun e w' => e = .returned (.bool (decide (200 < s.size))) ∧ w = w' := by
  go_enter Try.func183, Try.ntmps183
  by_cases h : 200 < s.size
  · have h' : (200 : Int) < (s.size : Int) := by omega
    go_wp2
    exact bodyPost_ret (v := .bool true) (by simp [results, Try.results183, go_sem, *]) rfl ⟨by simp [h], rfl⟩
  · have h' : ¬ (200 : Int) < (s.size : Int) := by omega
    go_wp2
    exact bodyPost_ret (v := .bool false) (by simp [results, Try.results183, go_sem, *]) rfl ⟨by simp, rfl⟩
set_option maxRecDepth 100000 in
set_option maxHeartbeats 3200000 in
theorem idxLong_any (v : Value) (L : List Bs) (w : World) (hr : Rs w v L) (hn : L.length ≤ 100000) :
    Calls Try.prog 231 #[v, .func (.func 183) #[] #[]] w fun e w' => ∃ i : Int, e = .returned (.int .i64 i) ∧ decide (0 ≤ i) = anyLong L ∧ w = w' := by
  obtain ⟨ao, cp, rfl, _, hc⟩ := hr
  have HC := Lib.hid hc
  clear hc
  go_enter Try.func231, Try.ntmps231
  go_wp2_with fail
  go_loopg [5, 8] (L.length + 1) (fun gh _ v8 wr => ∃ j : Nat, v8 = .int .i64 j ∧ (j ≤ L.length ∧ L.length - j < gh) ∧ Hid (∀ s ∈ L.take j, ¬ 200 < s.size) ∧ wr = w)
  case atStart => exact ⟨0, rfl, ⟨by omega, by omega⟩, Lib.hid (by simp), rfl⟩
  case round =>
    obtain ⟨j, rfl, ⟨j0, jg⟩, hE, rfl⟩ := hrel
    have KG := Lib.hid jg
    clear jg
    by_cases hj : j < L.length
    · obtain ⟨s, hs⟩ : ∃ s, L[j]? = some s := ⟨L[j], List.getElem?_eq_getElem hj⟩
      obtain ⟨b, o, rfl, _, cs⟩ := HC.out.resolve_left (by omega)
      have p0 := cs j s hs
      have FS := Lib.hid hs
      have jw : IntKind.i64.wrap ((j : Int) + 1) = (j : Int) + 1 := IntWalk.i64_in _ (by omega)
      clear hs cs
      go_wp2_with fail
      refine (long_any s _).mono ?_
      rintro e w' ⟨rfl, rfl⟩
      by_cases z : 200 < s.size
      · have z' : decide (200 < s.size) = true := by simp [z]
        have E : Hid (anyLong L = true) := Lib.hid (by unfold anyLong; simp; exact ⟨s, List.mem_of_getElem? FS.out, z⟩)
        rw [z']
        clear z z'
        go_wp2
        exact bodyPost_ret (v := .int .i64 j) (by simp [results, Try.results231, go_sem, *]) rfl ⟨_, rfl, by rw [E.out]; simp, rfl⟩
      · have z' : decide (200 < s.size) = false := by simp [z]
        have E : Hid (∀ s ∈ L.take (j + 1), ¬ 200 < s.size) := Lib.hid (by
          rw [List.take_add_one, FS.out]
          intro x hx
          rcases List.mem_append.1 hx with h | h
          · exact hE.out x h
          · simp at h; subst h; exact z)
        rw [z']
        clear z z' hE
        go_wp2_with fail
        go_roundg (L.length - j)
        case measure => exact KG.out
        case rel => exact ⟨j + 1, by go_num, ⟨by omega, by omega⟩, E, rfl⟩
    · have E : Hid (anyLong L = false) := Lib.hid (by
        have h := hE.out
        rw [List.take_of_length_le (by omega)] at h
        unfold anyLong
        simp
        intro x hx
        have := h x hx
        omega)
      go_wp2
      exact bodyPost_ret (v := .int .i64 (-1)) (by simp [results, Try.results231, go_sem, *]) rfl ⟨_, rfl, by rw [E.out]; simp, rfl⟩
theorem cfLong_any (v : Value) (L : List Bs) (w : World) (hr : Rs w v L) (hn : L.length ≤ 100000) :
    Calls Try.prog 182 #[v, .func (.func 183) #[] #[]] w fun e w' => e = .returned (.bool (anyLong L)) ∧ w = w' := by
  have HR := Lib.hid hr
  obtain ⟨ao, cp, rfl, _, _⟩ := hr
  go_enter Try.func182, Try.ntmps182
  go_wp2_with fail
  refine (idxLong_any _ L _ HR.out hn).mono ?_
  rintro e w' ⟨i, rfl, hi, rfl⟩
  have E := Lib.hid hi
  clear hi
  go_wp2
  refine bodyPost_ret (v := .bool (decide (0 ≤ i))) (by simp [results, Try.results182, go_sem, *]) rfl ⟨by rw [E.out], rfl⟩
end Go.Proofs.Ytcpeailodgoilaa
namespace Go.Proofs.Ytcpeailodgoilaa
open Go.ChangeShapes Go.WideShapes Go.ChangeAt Go.RowKit Go.Joins
theorem spot_of_cell {w : World} {a : Addr} {v : Value} (h : w.cell? a = some v) : a.spot = none := by
  unfold World.cell? at h
  split at h
  · split at h
    · cases h
    · rename_i hs
      cases e : a.spot with
      | none => rfl
      | some x => rw [e] at hs; exact absurd rfl hs
  · cases h
theorem spot_of_cells {w : World} {a : Addr} {v : Value} (h : w.cell? (a.add 0) = some v) : ∃ b o : Nat, a = ⟨b, o, none⟩ := by
  have e : a.add 0 = a := by simp [Addr.add]
  rw [e] at h
  have := spot_of_cell h
  obtain ⟨b, o, s⟩ := a
  simp at this
  subst this
  exact ⟨b, o, rfl⟩
theorem Try.cellsStr : Try.prog.cellsOf 9 = 1 := by kernel_rfl
theorem Try.laidOutI : laidOutB Try.prog = true := by kernel_rfl
section
variable {H : Type} {enc : TypeId × Value → H} {w : World} {base : Nat} {held : Bool}
set_option maxRecDepth 100000 in
theorem open_stringsI {r : Reach} {b0 : Nat} {v : Value} {d : DataW H} {p : List MemPlace} (hv : Value.okWide Try.prog w r b0 99 v) (h : DataW.Trod enc Try.prog w base (fun _ => true) held 99 v d p) :
    ∃ L : List Bs, Rs w v L ∧ ∀ c, v = .slice none 0 c → c = 0 := by
  obtain ⟨a, len, cap, rfl⟩ := okWide_slice Try.underlying99 hv
  obtain ⟨fuel, hf⟩ := h
  replace hf : DataW.trod enc Try.prog w base (fun _ => true) held fuel 99 [Value.slice a len cap] = some (d, p) := hf
  rcases Deep.open_strs Try.underlying99 Try.underlying9 Try.cellsStr hf with ⟨e, _⟩ | ⟨a, len, cap, m, Sx, e, hb, hl, hm, hmm, _, hx⟩
  · simp at e
    obtain ⟨rfl, rfl, rfl⟩ := e
    exact ⟨[], ⟨none, 0, rfl, Nat.le_refl _, Or.inl rfl⟩, fun c hc => by cases hc; rfl⟩
  · simp at e
    obtain ⟨rfl, rfl, rfl⟩ := e
    have hm' : m = cap := by simpa using hmm
    subst hm'
    have hlen : ((List.range len).map Sx).length = len := by simp
    refine ⟨(List.range len).map Sx, ⟨some a, m, by rw [hlen], by rw [hlen]; exact hl, ?_⟩, fun c hc => by cases hc⟩
    by_cases z : len = 0
    · exact Or.inl (by rw [hlen]; exact z)
    · right
      have h0 := (hx 0 (by omega)).1
      obtain ⟨b, o, rfl⟩ := spot_of_cells h0
      have ad : ∀ k : Nat, (⟨b, o, none⟩ : Addr).add k = ⟨b, o + k, none⟩ := fun k => by
        by_cases k0 : k = 0 <;> simp [Addr.add, k0]
      refine ⟨b, o, rfl, ?_, fun j s hs => ?_⟩
      · rw [ad] at h0
        exact World.block_lt_of_cell? w _ h0
      · have hj : j < len := by have := (List.getElem?_eq_some_iff.1 hs).1; simpa using this
        have es : s = Sx j := by
          rw [List.getElem?_map, List.getElem?_range hj] at hs
          simpa using hs.symm
        subst es
        have := (hx j (by omega)).1
        rw [ad] at this
        exact this
theorem back_argS {H : Type} {enc : TypeId × Value → H} {W W' : World} {v : Value} {d : DataW H} {ps : List MemPlace} (h : DataW.Trod enc Try.prog W 0 (fun _ => true) true 99 v d ps) (hb : Below W.heap.size W W')
    (hlt : ∀ x ∈ ps, x.block < W.heap.size) (sp : Nat → Bool) (hs : ∀ x ∈ ps, sp x.block = true) : DataW.Trod enc Try.prog W' 0 sp true 99 v d ps :=
  WideElems.Trod_stays Try.laidOutI (by kernel_rfl) (of_decide_eq_true (by kernel_rfl)) h (fun x hx => hb.same (hlt x hx)) hs
end
end Go.Proofs.Ytcpeailodgoilaa
namespace Go.Proofs.Ytcpeailodgoilaa
open Go.RowKit
theorem keepAdd_any (x y : Bool) (w : World) : Calls Try.prog 187 #[.bool x, .bool y] w fun e w' => e = .returned (.bool (kOr x y)) ∧ w = w' := by
  cases x <;> cases y
  all_goals
    go_enter Try.func187, Try.ntmps187
    go_wp2
    refine bodyPost_ret (v := .bool (kOr _ _)) (by simp [results, Try.results187, go_sem, kOr]) rfl ⟨rfl, rfl⟩
theorem keepRem_any (x y : Bool) (w : World) : Calls Try.prog 192 #[.bool x, .bool y] w fun e w' => e = .returned (.bool (kLess x y)) ∧ w = w' := by
  cases x <;> cases y
  all_goals
    go_enter Try.func192, Try.ntmps192
    go_wp2
    refine bodyPost_ret (v := .bool (kLess _ _)) (by simp [results, Try.results192, go_sem, kLess]) rfl ⟨rfl, rfl⟩
theorem keepJoin_any (x y : Bool) (w : World) : Calls Try.prog 194 #[.bool x, .bool y] w fun e w' => e = .returned (.bool (kOr x y)) ∧ w = w' := by
  cases x <;> cases y
  all_goals
    go_enter Try.func194, Try.ntmps194
    go_wp2
    refine bodyPost_ret (v := .bool (kOr _ _)) (by simp [results, Try.results194, go_sem, kOr]) rfl ⟨rfl, rfl⟩
theorem keepMeet_any (x y : Bool) (w : World) : Calls Try.prog 196 #[.bool x, .bool y] w fun e w' => e = .returned (.bool (kAnd x y)) ∧ w = w' := by
  cases x <;> cases y
  all_goals
    go_enter Try.func196, Try.ntmps196
    go_wp2
    refine bodyPost_ret (v := .bool (kAnd _ _)) (by simp [results, Try.results196, go_sem, kAnd]) rfl ⟨rfl, rfl⟩
theorem keepLess_any (x y : Bool) (w : World) : Calls Try.prog 197 #[.bool x, .bool y] w fun e w' => e = .returned (.bool (kLess x y)) ∧ w = w' := by
  cases x <;> cases y
  all_goals
    go_enter Try.func197, Try.ntmps197
    go_wp2
    refine bodyPost_ret (v := .bool (kLess _ _)) (by simp [results, Try.results197, go_sem, kLess]) rfl ⟨rfl, rfl⟩
theorem keepOdd_any (x y : Bool) (w : World) : Calls Try.prog 198 #[.bool x, .bool y] w fun e w' => e = .returned (.bool (kOdd x y)) ∧ w = w' := by
  cases x <;> cases y
  all_goals
    go_enter Try.func198, Try.ntmps198
    go_wp2
    refine bodyPost_ret (v := .bool (kOdd _ _)) (by simp [results, Try.results198, go_sem, kOdd]) rfl ⟨rfl, rfl⟩
/-- the error of the rest of a list of keys, behind one -/
def ckF : Option Bs → List Bs → Int
  | _, [] => 0
  | p, s :: l => if 100 < s.size then 7 else if (p.any fun q => sle s q) = true then 51 else ckF (some s) l
/-- the error of a list of keys -/
def ckE (L : List Bs) : Int := if 5000 < L.length then 5 else ckF none L
/-- the key ahead of a place -/
def ahead (L : List Bs) (j : Nat) : Option Bs := if j = 0 then none else L[j - 1]?
theorem ckF_step {L : List Bs} {j : Nat} {s : Bs} (h : L[j]? = some s) : ckF (ahead L j) (L.drop j) = if 100 < s.size then 7 else if ((ahead L j).any fun q => sle s q) = true then 51 else ckF (ahead L (j + 1)) (L.drop (j + 1)) := by
  obtain ⟨lt, e⟩ := List.getElem?_eq_some_iff.1 h
  rw [List.drop_eq_getElem_cons lt, e]
  show (if 100 < s.size then 7 else if _ then 51 else ckF (some s) _) = _
  have : ahead L (j + 1) = some s := by unfold ahead; rw [if_neg (by omega)]; exact h
  rw [this]
set_option maxRecDepth 100000 in
set_option maxHeartbeats 6400000 in
theorem checkKeys_any (v : Value) (L : List Bs) (w : World) (hr : Rs w v L) (hn : L.length ≤ 100000) :
    Calls Try.prog 107 #[v] w fun e w' => e = .returned (.int .i64 (ckE L)) ∧ w = w' := by
  obtain ⟨ao, cp, rfl, _, hc⟩ := hr
  have HC := Lib.hid hc
  clear hc
  go_enter Try.func107, Try.ntmps107
  by_cases big : 5000 < L.length
  · have E : Hid (ckE L = 5) := Lib.hid (if_pos big)
    have b' : (5000 : Int) < (L.length : Int) := by omega
    clear big
    go_wp2
    exact bodyPost_ret (v := .int .i64 5) (by simp [results, Try.results107, go_sem, *]) rfl ⟨by rw [E.out], rfl⟩
  · have E : Hid (ckE L = ckF none L) := Lib.hid (if_neg big)
    have b' : ¬ (5000 : Int) < (L.length : Int) := by omega
    clear big
    go_wp2_with fail
    go_loopg [3, 4, 10] (L.length + 1) (fun gh _ _ v10 wr => ∃ j : Nat, v10 = .int .i64 j ∧ (j ≤ L.length ∧ L.length - j < gh) ∧ Hid (ckE L = ckF (ahead L j) (L.drop j)) ∧ wr = w)
    case atStart => exact ⟨0, rfl, ⟨by omega, by omega⟩, Lib.hid E.out, rfl⟩
    case round =>
      obtain ⟨j, rfl, ⟨j0, jg⟩, hE, rfl⟩ := hrel
      have KG := Lib.hid jg
      clear jg
      by_cases hj : j < L.length
      · obtain ⟨s, hs⟩ : ∃ s, L[j]? = some s := ⟨L[j], List.getElem?_eq_getElem hj⟩
        obtain ⟨b, o, rfl, _, cs⟩ := HC.out.resolve_left (by omega)
        have p0 := cs j s hs
        have ST := Lib.hid (hE.out.trans (ckF_step hs))
        have jw : IntKind.i64.wrap ((j : Int) + 1) = (j : Int) + 1 := IntWalk.i64_in _ (by omega)
        have CS := Lib.hid cs
        have jl : (j : Int) < (L.length : Int) := by omega
        clear hs cs hE
        by_cases sz : 100 < s.size
        · have s' : (100 : Int) < (s.size : Int) := by omega
          have E2 := Lib.hid (ST.out.trans (if_pos sz))
          clear sz
          go_wp2
          exact bodyPost_ret (v := .int .i64 7) (by simp [results, Try.results107, go_sem, *]) rfl ⟨by rw [E2.out], rfl⟩
        · have s' : ¬ (100 : Int) < (s.size : Int) := by omega
          have ST := Lib.hid (ST.out.trans (if_neg sz))
          clear sz
          by_cases jz : j = 0
          · subst jz
            rw [Nat.add_zero] at p0
            have E2 : Hid (ckE L = ckF (ahead L 1) (L.drop 1)) := Lib.hid (ST.out.trans (if_neg (by simp [ahead])))
            go_wp2_with fail
            go_roundg (L.length - 0)
            case measure => exact KG.out
            case rel => exact ⟨1, rfl, ⟨by omega, by omega⟩, E2, rfl⟩
          · obtain ⟨i, hi⟩ : ∃ i, j = i + 1 := ⟨j - 1, by omega⟩
            obtain ⟨q, gq⟩ : ∃ q, L[i]? = some q := ⟨L[i]'(by omega), List.getElem?_eq_getElem _⟩
            have q0 := CS.out i q gq
            have AH : Hid (ahead L j = some q) := Lib.hid (by unfold ahead; rw [if_neg jz, hi]; exact gq)
            have ji : 1 ≤ j := by omega
            have kp : (0 : Int) < j := by omega
            have kp0 : 0 < j := by omega
            have kp1 : ¬ j = 0 := jz
            have ji' : (1 : Int) ≤ j := by omega
            have iw : IntKind.i64.wrap ((j : Int) - 1) = (j : Int) - 1 := IntWalk.i64_in _ (by omega)
            have jt : ((j : Int) - 1).toNat = i := by omega
            have jb : (0 : Int) ≤ (j : Int) - 1 ∧ (j : Int) - 1 < L.length := by omega
            have jb1 : (j : Int) - 1 < L.length := by omega
            have ST := Lib.hid (by have := ST.out; rw [AH.out] at this; exact this)
            clear jz hi gq
            cases h1 : Op.bytesLess s.toList q.toList
            · cases h2 : (s.toList == q.toList)
              · have E2 : Hid (ckE L = ckF (ahead L (j + 1)) (L.drop (j + 1))) := Lib.hid (ST.out.trans (if_neg (by simp only [Option.any_some]; unfold sle; rw [h1, h2]; decide)))
                clear ST
                go_wp2_with fail
                go_roundg (L.length - j)
                case measure => exact KG.out
                case rel => exact ⟨j + 1, by go_num, ⟨by omega, by omega⟩, E2, rfl⟩
              · have E2 : Hid (ckE L = 51) := Lib.hid (ST.out.trans (if_pos (by simp only [Option.any_some]; unfold sle; rw [h1, h2]; decide)))
                clear ST
                go_wp2
                exact bodyPost_ret (v := .int .i64 51) (by simp [results, Try.results107, go_sem, *]) rfl ⟨by rw [E2.out], rfl⟩
            · have E2 : Hid (ckE L = 51) := Lib.hid (ST.out.trans (if_pos (by simp only [Option.any_some]; unfold sle; rw [h1]; rfl)))
              clear ST
              go_wp2
              exact bodyPost_ret (v := .int .i64 51) (by simp [results, Try.results107, go_sem, *]) rfl ⟨by rw [E2.out], rfl⟩
      · have E2 : Hid (ckE L = 0) := Lib.hid (by rw [hE.out, List.drop_eq_nil_of_le (by omega)]; rfl)
        go_wp2
        exact bodyPost_ret (v := .int .i64 0) (by simp [results, Try.results107, go_sem, *]) rfl ⟨by rw [E2.out], rfl⟩
end Go.Proofs.Ytcpeailodgoilaa
