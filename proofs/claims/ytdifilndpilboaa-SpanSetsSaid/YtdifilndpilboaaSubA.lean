/-
  Lists of ranges in a slice that the call itself made: what put, upto and the closure of without do.
-/
import Derived.Test.YtdifilndpilboaaRefS
import Derived.WalkKit
import Derived.Deep.RegionWith
import Derived.Deep.DeepCutAuto
import Derived.Deep.LoopGhost
import Derived.Deep.CutBlock
import Derived.WalkSpells
import Derived.WalkLawsBesides
import Derived.BigQuiet
import Derived.Deep.QuietTactic
import Derived.Deep.RegionHeld3
import Derived.Deep.DrawnRows
import Derived.Deep.AppendLies
import Derived.Deep.RegionLaw
import Derived.Lib.Hide
namespace Go.Proofs.Ytdifilndpilboaa
open Go.RowKit

abbrev R3 := Int × Int × Int
/-- the cells of ranges, one behind the other -/
def cells3 : List R3 → List Value
  | [] => []
  | x :: L => .int .i64 x.1 :: .int .i64 x.2.1 :: .int .i64 x.2.2 :: cells3 L
theorem cells3_append (A B : List R3) : cells3 (A ++ B) = cells3 A ++ cells3 B := by
  induction A with
  | nil => rfl
  | cons x A ih => simp only [List.cons_append, cells3, ih]
theorem cells3_length (A : List R3) : (cells3 A).length = A.length * 3 := by
  induction A with
  | nil => rfl
  | cons x A ih => simp only [cells3, List.length_cons, ih]; omega
theorem cells3_get : ∀ (A : List R3) (j : Nat) (x : R3), A[j]? = some x → (cells3 A)[j * 3]? = some (.int .i64 x.1) ∧ (cells3 A)[j * 3 + 1]? = some (.int .i64 x.2.1) ∧ (cells3 A)[j * 3 + 2]? = some (.int .i64 x.2.2)
  | [], j, x, h => by simp at h
  | y :: A, 0, x, h => by simp at h; subst h; exact ⟨rfl, rfl, rfl⟩
  | y :: A, j + 1, x, h => by
    have := cells3_get A j x (by simpa using h)
    rw [show (j + 1) * 3 = j * 3 + 1 + 1 + 1 by omega]
    simpa [cells3] using this
theorem cells3_one (A : List R3) : ∀ u ∈ cells3 A, u.oneCell' = true := by
  induction A with
  | nil => intro u h; cases h
  | cons x A ih =>
    intro u h
    simp only [cells3, List.mem_cons] at h
    rcases h with rfl | rfl | rfl | h
    · rfl
    · rfl
    · rfl
    · exact ih u h

/-- the right range with ends, a step and a direction -/
def nrm (lo hi st : Int) (dn : Bool) : R3 := (nL lo hi, nH lo hi, nS lo hi st dn)
/-- a list with a range behind it, if this is not empty -/
def addP (L : List R3) (lo hi st : Int) (dn : Bool) : List R3 := if lo ≤ hi then L ++ [nrm lo hi st dn] else L
theorem addP_le (L : List R3) (lo hi st : Int) (dn : Bool) : L.length ≤ (addP L lo hi st dn).length ∧ (addP L lo hi st dn).length ≤ L.length + 1 := by
  unfold addP; split <;> simp
def putP (L : List R3) (l h s : Int) : List R3 := if reqB l h s 1 0 1 = true then L else L ++ [(l, h, s)]
theorem putP_nrm (L : List R3) (lo hi st : Int) (dn : Bool) : putP L (nL lo hi) (nH lo hi) (nS lo hi st dn) = addP L lo hi st dn := by
  unfold putP addP nrm nL nH nS
  by_cases c : hi < lo
  · rw [if_pos c, if_pos c, if_pos c, if_neg (by omega : ¬ lo ≤ hi), if_pos (by decide)]
  · rw [if_neg c, if_neg c, if_neg c, if_pos (by omega : lo ≤ hi), if_neg]
    unfold reqB
    simp; omega

theorem owns_below {w w' : World} {base : Nat} {e : TypeId} {size : Nat} {v : Value} {n : Nat} {xs : List Value} (h : w.ownsRow base e size v n xs) (hb : Below w.heap.size w w') : w'.ownsRow base e size v n xs := by
  refine ⟨h.1, ?_⟩
  rcases h.2 with hn | ⟨g, cap, cur, rfl, hg, hgg, rest⟩
  · exact Or.inl hn
  · exact Or.inr ⟨g, cap, cur, rfl, hg, by rw [hb.block g (Array.getElem?_eq_some_iff.1 hgg).1]; exact hgg, rest⟩
theorem owns_base {w : World} {base base' : Nat} {e : TypeId} {size : Nat} {v : Value} {n : Nat} {xs : List Value} (h : w.ownsRow base e size v n xs) (hb : base' ≤ base) : w.ownsRow base' e size v n xs := by
  refine ⟨h.1, ?_⟩
  rcases h.2 with hn | ⟨g, cap, cur, hv, hg, rest⟩
  · exact Or.inl hn
  · exact Or.inr ⟨g, cap, cur, hv, Nat.le_trans hb hg, rest⟩
theorem owns_slice {w : World} {base : Nat} {e : TypeId} {size : Nat} {v : Value} {n : Nat} {xs : List Value} (h : w.ownsRow base e size v n xs) : ∃ ao cap, v = .slice ao n cap := by
  rcases h.2 with ⟨rfl, rfl⟩ | ⟨g, cap, cur, rfl, _⟩
  · exact ⟨none, 0, rfl⟩
  · exact ⟨_, cap, rfl⟩
theorem Try.infoRange : (Try.prog.info? 23).map (fun i => (i.zero, i.size, i.bytes)) = some (some (.agg #[.int .i64 0, .int .i64 0, .int .i64 0]), 3, 24) := by kernel_rfl

/-- what put returns -/
def PutRet (base : Nat) (L : List R3) (w : World) : Ending → World → Prop := fun e w' => ∃ v, e = .returned v ∧ w'.ownsRow base 23 3 v L.length (cells3 L) ∧ Below base w w'

set_option maxHeartbeats 1600000 in
theorem put_any (v : Value) (L : List R3) (l h s : Int) (base : Nat) (w : World) (hown : w.ownsRow base 23 3 v L.length (cells3 L)) (hb : base ≤ w.heap.size) (hn : L.length ≤ 5000) :
    Calls Try.prog 121 #[v, .agg #[.int .i64 l, .int .i64 h, .int .i64 s]] w (PutRet base (putP L l h s) w) := by
  obtain ⟨i0, hi, hz0, hz1, hz2⟩ := info_parts Try.infoRange
  have hl := cells3_length L
  have OWN := Lib.hid hown
  clear hown
  go_enter Try.func121, Try.ntmps121
  go_wp2_with fail
  refine (refIsEmpty_any _ _ _ _).mono ?_
  rintro e w1 ⟨rfl, hb1⟩
  have OWN1 := Lib.hid (owns_below (OWN.out.alloc _) hb1)
  obtain ⟨W1, z1, x0, x1, x2⟩ := box3 hb1
  clear hb1 OWN
  cases hq : reqB l h s 1 0 1
  · go_wp2_with (first | (at_builtin; refine wpList_append_own _ rfl (.tmp 8) (.tmp 10) 40 rfl base 23 i0 (.agg #[.int .i64 0, .int .i64 0, .int .i64 0]) 3 24 Try.underlying40 hi hz0 hz1 hz2 rfl (by decide) v L.length (cells3 L) rfl (OWN1.out.alloc _) ⟨w1.heap.size, 0, none⟩ 1 1 (cells3 [(l, h, s)]) rfl rfl ?c1 ?c2 ?c3 ?c4 ?c5 ?_))
    case c1 => exact World.news_of_block (cs := #[.int .i64 l, .int .i64 h, .int .i64 s]) (t := 23) (fr := (0, 0)) (heap_alloc_new w1 _)
    case c2 => exact cells3_one _
    case c3 => unfold maxLen; omega
    case c4 => omega
    case c5 => simp; omega
    intro v' w2 own2 grow2 _
    have W2 : Hid (Below base w w2) := Lib.hid (((W1.out.mono hb).alloc (by omega) _).grown grow2 (by simp; omega) (fun k hk => (OWN1.out.lt k hk).1))
    have e1 : putP L l h s = L ++ [(l, h, s)] := by unfold putP; rw [hq]; rfl
    have O2 : Hid (w2.ownsRow base 23 3 v' (putP L l h s).length (cells3 (putP L l h s))) := Lib.hid (by rw [e1, cells3_append, List.length_append]; exact own2)
    clear own2 grow2 e1 hq OWN1 W1 x0 x1 x2
    go_wp2
    exact bodyPost_ret (v := v') (by simp [results, Try.results121, go_sem, *]) rfl ⟨v', rfl, O2.out, W2.out⟩
  · have O2 : Hid (w1.ownsRow base 23 3 v (putP L l h s).length (cells3 (putP L l h s))) := Lib.hid (by unfold putP; rw [hq]; exact OWN1.out)
    clear hq OWN1
    go_wp2
    exact bodyPost_ret (v := v) (by simp [results, Try.results121, go_sem, *]) rfl ⟨v, rfl, O2.out, W1.out.mono hb⟩

/-- put of a normal range -/
theorem put_nrm (v : Value) (L : List R3) (lo hi st : Int) (dn : Bool) (base : Nat) (w : World) (hown : w.ownsRow base 23 3 v L.length (cells3 L)) (hb : base ≤ w.heap.size) (hn : L.length ≤ 5000) :
    Calls Try.prog 121 #[v, .agg #[.int .i64 (nL lo hi), .int .i64 (nH lo hi), .int .i64 (nS lo hi st dn)]] w (PutRet base (addP L lo hi st dn) w) := by
  rw [← putP_nrm]
  exact put_any v L _ _ _ base w hown hb hn

def uptoI (lo hi st : Int) : Int := if hi < lo then lo - 1 else lo + (hi - lo) / st * st
theorem upto_any (lo hi st : Int) (w : World) (a1 : -9000000 ≤ lo) (a2 : lo ≤ 9000000) (b1 : -9000000 ≤ hi) (b2 : hi ≤ 9000000) (s1 : 1 ≤ st) (s2 : st ≤ 9000000) :
    Calls Try.prog 122 #[.int .i64 lo, .int .i64 hi, .int .i64 st] w fun e w' => e = .returned (.int .i64 (uptoI lo hi st)) ∧ w = w' := by
  by_cases c : hi < lo
  · have j1 : IntKind.i64.wrap (lo - 1) = lo - 1 := IntWalk.i64_in _ (by omega)
    have e1 : Hid (uptoI lo hi st = lo - 1) := Lib.hid (if_pos c)
    go_enter Try.func122, Try.ntmps122
    go_wp2
    rw [e1.out]
    exact bodyPost_ret (v := .int .i64 (lo - 1)) (by simp [results, Try.results122, go_sem, *]) rfl ⟨rfl, rfl⟩
  · have hq := quo_bd (hi - lo) st (by omega) s1
    have e1 : Hid (uptoI lo hi st = lo + (hi - lo) / st * st) := Lib.hid (if_neg c)
    have em := ediv_mul (hi - lo) st
    have er0 := Int.emod_nonneg (hi - lo) (show st ≠ 0 by omega)
    have er1 := Int.emod_lt_of_pos (hi - lo) (show 0 < st by omega)
    have sz : ¬ st = 0 := by omega
    have j1 : IntKind.i64.wrap (hi - lo) = hi - lo := IntWalk.i64_in _ (by omega)
    have j2 : IntKind.i64.wrap ((hi - lo).tdiv st) = (hi - lo) / st := IntWalk.i64_quo _ _ ⟨by omega, by omega, s1⟩
    have j3 : IntKind.i64.wrap ((hi - lo) / st * st) = (hi - lo) / st * st := IntWalk.i64_in _ (by omega)
    have j4 : IntKind.i64.wrap (lo + (hi - lo) / st * st) = lo + (hi - lo) / st * st := IntWalk.i64_in _ (by omega)
    clear em er0 er1 hq
    go_enter Try.func122, Try.ntmps122
    go_wp2
    rw [e1.out]
    exact bodyPost_ret (v := .int .i64 (lo + (hi - lo) / st * st)) (by simp [results, Try.results122, go_sem, *]) rfl ⟨rfl, rfl⟩
end Go.Proofs.Ytdifilndpilboaa
