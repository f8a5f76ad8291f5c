/-
  Part 21: DomU, LawDp.
-/
import Derived.Test.YtabgphlpdoockaaDp15
import Derived.Test.YtabgphlpdoockaaDp20
import Derived.BigQuiet
import Derived.Deep.CutBlock
import Derived.Deep.DeepCutAuto
import Derived.Deep.DrawnRows
import Derived.Deep.LoopGhost
import Derived.Deep.QuietTactic
import Derived.Deep.RegionHeld3
import Derived.Deep.RegionWith
import Derived.Lib.Hide
import Derived.WalkKit
import Derived.WalkLawsBesides
import Derived.WalkSpells
namespace Go.Proofs.Ytabgphlpdoockaa
open Go.RowKit
theorem meets_uniq {L M X X' : List R3} (h : Meets L M X) (h' : Meets L M X') : X = X' := by
  apply List.ext_getElem?
  intro i
  by_cases c : i < X.length
  · have c' : i < X'.length := by rw [h'.1, ← h.1]; exact c
    obtain ⟨A, B, hA, hB, f⟩ := h.2 i X[i] (List.getElem?_eq_getElem c)
    obtain ⟨A', B', hA', hB', f'⟩ := h'.2 i X'[i] (List.getElem?_eq_getElem c')
    rw [hA] at hA'; cases hA'
    rw [hB] at hB'; cases hB'
    obtain ⟨e1, e2, e3⟩ := interF_uniq f f'
    rw [List.getElem?_eq_getElem c, List.getElem?_eq_getElem c']
    exact congrArg some (Prod.ext e1 (Prod.ext e2 e3))
  · have c' : ¬ i < X'.length := by rw [h'.1, ← h.1]; exact c
    rw [List.getElem?_eq_none (by omega), List.getElem?_eq_none (by omega)]
theorem subsP_uniq {L M : List R3} {i : Nat} {P P' : List R3} (h : SubsP L M i P) (h' : SubsP L M i P') : P = P' := by
  obtain ⟨A, B, l, hh, s, hA, hB, f, rfl⟩ := h
  obtain ⟨A', B', l', hh', s', hA', hB', f', rfl⟩ := h'
  rw [hA] at hA'; cases hA'
  rw [hB] at hB'; cases hB'
  obtain ⟨rfl, rfl, rfl⟩ := interF_uniq f f'
  rfl
theorem dsubs_uniq {L M C : List R3} {Ds Ds' : List (List R3)} {er er' : Int} (h : DSubs L M C Ds er) (h' : DSubs L M C Ds' er') : Ds = Ds' ∧ er = er' := by
  rcases h with ⟨p, rfl, rfl⟩ | ⟨p, q, rfl, rfl⟩ | ⟨p, q, PS, hP, h⟩
  · rcases h' with ⟨_, rfl, rfl⟩ | ⟨p', _⟩ | ⟨p', _⟩
    · exact ⟨rfl, rfl⟩
    · exact absurd p p'
    · exact absurd p p'
  · rcases h' with ⟨p', _⟩ | ⟨_, _, rfl, rfl⟩ | ⟨_, q', _⟩
    · exact absurd p' p
    · exact ⟨rfl, rfl⟩
    · exact absurd q q'
  · rcases h' with ⟨p', _⟩ | ⟨_, q', _⟩ | ⟨_, _, PS', hP', h'⟩
    · exact absurd p' p
    · exact absurd q' q
    · rcases h with ⟨l, sm, rfl, rfl⟩ | ⟨P, l, sm, hS, big, rfl, rfl⟩
      · rcases h' with ⟨l', _, rfl, rfl⟩ | ⟨P', l', _, hS', big', _⟩
        · have e : PS = PS' := by
            apply List.ext_getElem?
            intro i
            by_cases c : i < PS.length
            · have c' : i < PS'.length := by omega
              rw [List.getElem?_eq_getElem c, List.getElem?_eq_getElem c']
              exact congrArg some (subsP_uniq (hP i _ (List.getElem?_eq_getElem c)) (hP' i _ (List.getElem?_eq_getElem c')))
            · rw [List.getElem?_eq_none (by omega), List.getElem?_eq_none (by omega)]
          rw [e]; exact ⟨rfl, rfl⟩
        · have c : PS'.length < PS.length := by omega
          have e := subsP_uniq (hP _ _ (List.getElem?_eq_getElem c)) hS'
          have := sm _ (List.getElem_mem c)
          rw [e] at this
          omega
      · rcases h' with ⟨l', sm', rfl, rfl⟩ | ⟨P', _, _, _, _, rfl, rfl⟩
        · have c : PS.length < PS'.length := by omega
          have e := subsP_uniq (hP' _ _ (List.getElem?_eq_getElem c)) hS
          have := sm' _ (List.getElem_mem c)
          rw [e] at this
          omega
        · exact ⟨rfl, rfl⟩
/-- what Intersect tells -/
def InP (L : List R3) (k s h : Int) (M : List R3) (k' s' h' : Int) (X : List R3) (kk ss hh er : Int) : Prop :=
  (dboth L k s h M k' s' h' = 0 ∧ er = 0 ∧ kk = k ∧ ss = s ∧ hh = h ∧ Meets L M X) ∨ (¬ dboth L k s h M k' s' h' = 0 ∧ er = dboth L k s h M k' s' h' ∧ X = [] ∧ kk = 0 ∧ ss = 0 ∧ hh = 0)
theorem inP_uniq {L : List R3} {k s h : Int} {M : List R3} {k' s' h' : Int} {X X' : List R3} {kk ss hh er kk' ss' hh' er' : Int} (a : InP L k s h M k' s' h' X kk ss hh er) (b : InP L k s h M k' s' h' X' kk' ss' hh' er') :
    X' = X ∧ kk' = kk ∧ ss' = ss ∧ hh' = hh ∧ er' = er := by
  rcases a with ⟨c, rfl, rfl, rfl, rfl, m⟩ | ⟨c, rfl, rfl, rfl, rfl, rfl⟩
  · rcases b with ⟨_, rfl, rfl, rfl, rfl, m'⟩ | ⟨c', _⟩
    · exact ⟨meets_uniq m' m, rfl, rfl, rfl, rfl⟩
    · exact absurd c c'
  · rcases b with ⟨c', _⟩ | ⟨_, rfl, rfl, rfl, rfl, rfl⟩
    · exact absurd c' c
    · exact ⟨rfl, rfl, rfl, rfl, rfl⟩
theorem inP_len {L : List R3} {k s h : Int} {M : List R3} {k' s' h' : Int} {X : List R3} {kk ss hh er : Int} (a : InP L k s h M k' s' h' X kk ss hh er) : X.length ≤ 2 := by
  rcases a with ⟨c, _, _, _, _, m⟩ | ⟨_, _, rfl, _⟩
  · have := dchk_rank (dboth_zero c).1
    have := m.1
    omega
  · simp
theorem in_rd {L : List R3} {k s h : Int} {M : List R3} {k' s' h' : Int} {v : Value} {kk ss hh er : Int} {B : Nat} {w : World}
    (q : Hid ((dboth L k s h M k' s' h' = 0 ∧ er = 0 ∧ kk = k ∧ ss = s ∧ hh = h ∧ ∃ X, Meets L M X ∧ w.ownsRow B 23 3 v X.length (cells3 X)) ∨
      (¬ dboth L k s h M k' s' h' = 0 ∧ er = dboth L k s h M k' s' h' ∧ v = .slice none 0 0 ∧ kk = 0 ∧ ss = 0 ∧ hh = 0))) : ∃ X, Hid (InP L k s h M k' s' h' X kk ss hh er) ∧ Rd w v X := by
  rcases q.out with ⟨c, e, a1, a2, a3, X, m, own⟩ | ⟨c, e, rfl, a1, a2, a3⟩
  · exact ⟨X, Lib.hid (Or.inl ⟨c, e, a1, a2, a3, m⟩), Rd.of_own own⟩
  · exact ⟨[], Lib.hid (Or.inr ⟨c, e, rfl, a1, a2, a3⟩), none, 0, rfl, Or.inl rfl⟩
/-- what Subtract tells -/
def SbP (L : List R3) (k s h : Int) (M : List R3) (k' s' h' : Int) (Ds : List (List R3)) (er : Int) : Prop :=
  (dboth L k s h M k' s' h' = 0 ∧ ∃ C, Meets L M C ∧ DSubs L M C Ds er) ∨ (¬ dboth L k s h M k' s' h' = 0 ∧ er = dboth L k s h M k' s' h' ∧ Ds = [])
theorem sbP_uniq {L : List R3} {k s h : Int} {M : List R3} {k' s' h' : Int} {Ds Ds' : List (List R3)} {er er' : Int} (a : SbP L k s h M k' s' h' Ds er) (b : SbP L k s h M k' s' h' Ds' er') : Ds' = Ds ∧ er' = er := by
  rcases a with ⟨c, C, m, d⟩ | ⟨c, rfl, rfl⟩
  · rcases b with ⟨_, C', m', d'⟩ | ⟨c', _⟩
    · obtain rfl := meets_uniq m m'
      exact dsubs_uniq d' d
    · exact absurd c c'
  · rcases b with ⟨c', _⟩ | ⟨_, rfl, rfl⟩
    · exact absurd c' c
    · exact ⟨rfl, rfl⟩
theorem pcs_len {C L : List R3} {i : Nat} {P : List R3} {D : List R3} (h : D ∈ pcs C L i P) : D.length ≤ C.length + L.length + 1 := by
  unfold pcs at h
  obtain ⟨r, _, rfl⟩ := List.mem_map.1 h
  simp only [List.length_append, List.length_take, List.length_drop, List.length_cons, List.length_nil]
  omega
theorem allP_lens {C L : List R3} {PS : List (List R3)} : ∀ {k : Nat} {D : List R3}, D ∈ allP C L PS k → D.length ≤ C.length + L.length + 1
  | 0, D, h => by simp [allP] at h
  | k + 1, D, h => by
    rw [allP] at h
    rcases List.mem_append.1 h with h | h
    · exact allP_lens h
    · exact pcs_len h
theorem sbP_len {L : List R3} {k s h : Int} {M : List R3} {k' s' h' : Int} {Ds : List (List R3)} {er : Int} (a : SbP L k s h M k' s' h' Ds er) : Ds.length ≤ 5000 ∧ ∀ D ∈ Ds, D.length ≤ 5000 := by
  rcases a with ⟨c, C, m, d⟩ | ⟨_, _, rfl⟩
  · have rk := dchk_rank (dboth_zero c).1
    have lc := m.1
    rcases d with ⟨_, rfl, _⟩ | ⟨_, _, rfl, _⟩ | ⟨_, _, PS, _, h⟩
    · exact ⟨by simp, fun D hD => by cases hD⟩
    · exact ⟨by simp, fun D hD => by simp at hD; subst hD; omega⟩
    · rcases h with ⟨l, sm, _, rfl⟩ | ⟨_, _, _, _, _, _, rfl⟩
      · refine ⟨?_, fun D hD => ?_⟩
        · have := allP_len sm (C := C) (L := L) PS.length
          omega
        · have := allP_lens hD
          omega
      · exact ⟨by simp, fun D hD => by cases hD⟩
  · exact ⟨by simp, fun D hD => by cases hD⟩
theorem sb_own {L : List R3} {k s h : Int} {M : List R3} {k' s' h' : Int} {v : Value} {er : Int} {B : Nat} {w : World}
    (q : Hid ((¬ dboth L k s h M k' s' h' = 0 ∧ er = dboth L k s h M k' s' h' ∧ v = .slice none 0 0) ∨ (dboth L k s h M k' s' h' = 0 ∧ ∃ (C : List R3) (Ds : List (List R3)), Meets L M C ∧ DSubs L M C Ds er ∧ OwnD B w v Ds k s h))) :
    ∃ Ds, Hid (SbP L k s h M k' s' h' Ds er) ∧ OwnD B w v Ds k s h := by
  rcases q.out with ⟨c, e, rfl⟩ | ⟨c, C, Ds, m, d, o⟩
  · exact ⟨[], Lib.hid (Or.inr ⟨c, e, rfl⟩), OwnD.nil _ _ _ _ _⟩
  · exact ⟨Ds, Lib.hid (Or.inl ⟨c, C, m, d⟩), o⟩
theorem win_uniq {L : List R3} {k s h : Int} {M : List R3} {k' s' h' : Int} {b b' : Bool} {er er' : Int}
    (q : Hid ((¬ dboth L k s h M k' s' h' = 0 ∧ er = dboth L k s h M k' s' h' ∧ b = false) ∨ (dboth L k s h M k' s' h' = 0 ∧ er = 0 ∧ ∃ C, Meets L M C ∧ b = (prodL C == prodL L))))
    (q' : Hid ((¬ dboth L k s h M k' s' h' = 0 ∧ er' = dboth L k s h M k' s' h' ∧ b' = false) ∨ (dboth L k s h M k' s' h' = 0 ∧ er' = 0 ∧ ∃ C, Meets L M C ∧ b' = (prodL C == prodL L)))) : b' = b ∧ er' = er := by
  rcases q.out with ⟨c, rfl, rfl⟩ | ⟨c, rfl, C, m, rfl⟩
  · rcases q'.out with ⟨_, rfl, rfl⟩ | ⟨c', _⟩
    · exact ⟨rfl, rfl⟩
    · exact absurd c' c
  · rcases q'.out with ⟨c', _⟩ | ⟨_, rfl, C', m', rfl⟩
    · exact absurd c c'
    · obtain rfl := meets_uniq m m'
      exact ⟨rfl, rfl⟩
end Go.Proofs.Ytabgphlpdoockaa
namespace Go.Proofs.Ytabgphlpdoockaa
open Go.RowKit
/-- the law's blocks -/
structure LDp (w : World) (va : Value) (k s h : Int) (vb : Value) (k' s' h' : Int) (gx : Nat) (vx : Value) (gy : Nat) (vy : Value) (kk ss hh : Int) (X : List R3) (B1 : Nat) (vl : Value) (B2 : Nat) (vm : Value) (Ds : List (List R3)) (wr : World) : Prop where
  below : Below w.heap.size w wr
  a : Blk w.heap.size va (.int .i64 k) (.int .i64 s) (.int .i64 h) wr
  b : Blk (w.heap.size + 1) vb (.int .i64 k') (.int .i64 s') (.int .i64 h') wr
  x : Blk gx vx (.int .i64 kk) (.int .i64 ss) (.int .i64 hh) wr
  y : Blk gy vy (.int .i64 kk) (.int .i64 ss) (.int .i64 hh) wr
  rx : Rd wr vx X
  ry : Rd wr vy X
  ol : OwnD B1 wr vl Ds k s h
  om : OwnD B2 wr vm Ds k s h
theorem LDp.keep {w : World} {va : Value} {k s h : Int} {vb : Value} {k' s' h' : Int} {gx : Nat} {vx : Value} {gy : Nat} {vy : Value} {kk ss hh : Int} {X : List R3} {B1 : Nat} {vl : Value} {B2 : Nat} {vm : Value} {Ds : List (List R3)} {wa wb : World} (t : LDp w va k s h vb k' s' h' gx vx gy vy kk ss hh X B1 vl B2 vm Ds wa) (hb : Below wa.heap.size wa wb) : LDp w va k s h vb k' s' h' gx vx gy vy kk ss hh X B1 vl B2 vm Ds wb :=
  ⟨t.below.trans (hb.mono t.below.size), t.a.keep hb, t.b.keep hb, t.x.keep hb, t.y.keep hb, t.rx.keep hb, t.ry.keep hb, t.ol.keep hb, t.om.keep hb⟩
set_option maxRecDepth 100000 in
set_option maxHeartbeats 6400000 in
theorem domainPairs_walk (v : Value) (L : List R3) (k s h : Int) (v' : Value) (M : List R3) (k' s' h' : Int) (w : World) (hr : Rd w v L) (hL : Ok3 L) (hcap : ∀ a n c, v = .slice a n c → n ≤ c) (hr' : Rd w v' M) (hM : Ok3 M) (_hcap' : ∀ a n c, v' = .slice a n c → n ≤ c) :
    Calls Try.prog 13 #[.agg #[v, .int .i64 k, .int .i64 s, .int .i64 h], .agg #[v', .int .i64 k', .int .i64 s', .int .i64 h']] w fun e w' => e = .returned (.bool true) ∧ Below w.heap.size w w' := by
  have HL := Lib.hid hL
  have HM := Lib.hid hM
  have HC := Lib.hid hcap
  have HR : Hid (Rd w v L) := Lib.hid hr
  have HR' : Hid (Rd w v' M) := Lib.hid hr'
  obtain ⟨oa, ca, rfl, _⟩ := hr
  obtain ⟨ob, cb, rfl, _⟩ := hr'
  clear hL hM hcap
  go_enter Try.func13, Try.ntmps13
  go_wp2_with fail
  refine (Dinter_any _ L k s h _ M k' s' h' _ ((HR.out.keep (below_new _ _)).keep (below_new _ _)) HL.out ((HR'.out.keep (below_new _ _)).keep (below_new _ _)) HM.out).mono ?_
  rintro e w1 ⟨vx, kk, ss, hh, er, rfl, hb, hE⟩
  obtain ⟨X, IX, rx⟩ := in_rd hE
  have R1 := res44 hb
  have BL := Lib.hid R1.1
  have Ka := Lib.hid R1.2.1
  have Kb := Lib.hid R1.2.2
  obtain ⟨ox, cx, rfl, qx⟩ := rx
  have Rx : Hid (Rd w1 (.slice ox X.length cx) X) := Lib.hid ⟨ox, cx, rfl, qx⟩
  clear hE hb R1 qx
  go_upto_region 2 with fail
  have hb := below_new w1 (.cells #[.slice ox X.length cx, .int .i64 kk, .int .i64 ss, .int .i64 hh] 62)
  have Ka := Lib.hid (Ka.out.keep hb)
  have Kb := Lib.hid (Kb.out.keep hb)
  have Rx := Lib.hid (Rx.out.keep hb)
  have BL := Lib.hid (BL.out.trans (hb.mono BL.out.size))
  have Kx := Lib.hid (Blk.new (.slice ox X.length cx) (.int .i64 kk) (.int .i64 ss) (.int .i64 hh) 62 w1)
  clear hb
  generalize w1.alloc (.cells #[.slice ox X.length cx, .int .i64 kk, .int .i64 ss, .int .i64 hh] 62) = u1 at *
  have zKa0 := Ka.out.c0
  have zKa1 := Ka.out.c1
  have zKa2 := Ka.out.c2
  have zKa3 := Ka.out.c3
  have zKb0 := Kb.out.c0
  have zKb1 := Kb.out.c1
  have zKb2 := Kb.out.c2
  have zKb3 := Kb.out.c3
  go_wp2_with fail
  refine (rDinter_any _ L k s h _ M k' s' h' _ (HR.out.keep BL.out) HL.out (HR'.out.keep BL.out) HM.out).mono ?_
  rintro e w2 ⟨vy, kk2, ss2, hh2, er2, rfl, hb, hE⟩
  clear zKa0 zKa1 zKa2 zKa3 zKb0 zKb1 zKb2 zKb3
  obtain ⟨X2, IX2, ry⟩ := in_rd hE
  obtain ⟨rfl, rfl, rfl, rfl, rfl⟩ := inP_uniq IX.out IX2.out
  obtain ⟨oy, cy, rfl, qy⟩ := ry
  have Ry : Hid (Rd w2 (.slice oy X2.length cy) X2) := Lib.hid ⟨oy, cy, rfl, qy⟩
  have Ka := Lib.hid (Ka.out.keep hb)
  have Kb := Lib.hid (Kb.out.keep hb)
  have Rx := Lib.hid (Rx.out.keep hb)
  have Kx := Lib.hid (Kx.out.keep hb)
  have BL := Lib.hid (BL.out.trans (hb.mono BL.out.size))
  clear hE hb qy IX
  go_upto_region 3 with fail
  have hb := below_new w2 (.cells #[.slice oy X2.length cy, .int .i64 kk2, .int .i64 ss2, .int .i64 hh2] 62)
  have Ka := Lib.hid (Ka.out.keep hb)
  have Kb := Lib.hid (Kb.out.keep hb)
  have Rx := Lib.hid (Rx.out.keep hb)
  have Kx := Lib.hid (Kx.out.keep hb)
  have Ry := Lib.hid (Ry.out.keep hb)
  have BL := Lib.hid (BL.out.trans (hb.mono BL.out.size))
  have Ky := Lib.hid (Blk.new (.slice oy X2.length cy) (.int .i64 kk2) (.int .i64 ss2) (.int .i64 hh2) 62 w2)
  clear hb
  generalize w2.alloc (.cells #[.slice oy X2.length cy, .int .i64 kk2, .int .i64 ss2, .int .i64 hh2] 62) = u2 at *
  have zKa0 := Ka.out.c0
  have zKa1 := Ka.out.c1
  have zKa2 := Ka.out.c2
  have zKa3 := Ka.out.c3
  have zKb0 := Kb.out.c0
  have zKb1 := Kb.out.c1
  have zKb2 := Kb.out.c2
  have zKb3 := Kb.out.c3
  go_wp2_with fail
  refine (Dsub_any _ L k s h _ M k' s' h' _ (HR.out.keep BL.out) HL.out (HR'.out.keep BL.out) HM.out HC.out).mono ?_
  rintro e w3 ⟨vl, er3, rfl, hb, hE⟩
  clear zKa0 zKa1 zKa2 zKa3 zKb0 zKb1 zKb2 zKb3
  obtain ⟨Ds, SD, ol⟩ := sb_own hE
  have hol := Lib.hid ol
  clear hE ol
  have Ka := Lib.hid (Ka.out.keep hb)
  have Kb := Lib.hid (Kb.out.keep hb)
  have Rx := Lib.hid (Rx.out.keep hb)
  have Kx := Lib.hid (Kx.out.keep hb)
  have Ry := Lib.hid (Ry.out.keep hb)
  have Ky := Lib.hid (Ky.out.keep hb)
  have BL := Lib.hid (BL.out.trans (hb.mono BL.out.size))
  have Ol := hol
  clear hol hb
  have zKa0 := Ka.out.c0
  have zKa1 := Ka.out.c1
  have zKa2 := Ka.out.c2
  have zKa3 := Ka.out.c3
  have zKb0 := Kb.out.c0
  have zKb1 := Kb.out.c1
  have zKb2 := Kb.out.c2
  have zKb3 := Kb.out.c3
  go_wp2_with fail
  refine (rDsub_any _ L k s h _ M k' s' h' _ (HR.out.keep BL.out) HL.out (HR'.out.keep BL.out) HM.out HC.out).mono ?_
  rintro e w4 ⟨vm, er4, rfl, hb, hE⟩
  clear zKa0 zKa1 zKa2 zKa3 zKb0 zKb1 zKb2 zKb3
  obtain ⟨Ds2, SD2, om⟩ := sb_own hE
  obtain ⟨rfl, rfl⟩ := sbP_uniq SD.out SD2.out
  have hom := Lib.hid om
  clear hE om SD
  have Ka := Lib.hid (Ka.out.keep hb)
  have Kb := Lib.hid (Kb.out.keep hb)
  have Rx := Lib.hid (Rx.out.keep hb)
  have Kx := Lib.hid (Kx.out.keep hb)
  have Ry := Lib.hid (Ry.out.keep hb)
  have Ky := Lib.hid (Ky.out.keep hb)
  have Ol := Lib.hid (Ol.out.keep hb)
  have BL := Lib.hid (BL.out.trans (hb.mono BL.out.size))
  have Om := hom
  clear hom hb
  have zKa0 := Ka.out.c0
  have zKa1 := Ka.out.c1
  have zKa2 := Ka.out.c2
  have zKa3 := Ka.out.c3
  have zKb0 := Kb.out.c0
  have zKb1 := Kb.out.c1
  have zKb2 := Kb.out.c2
  have zKb3 := Kb.out.c3
  go_wp2_with fail
  refine (Dwin_any _ L k s h _ M k' s' h' _ (HR.out.keep BL.out) HL.out (HR'.out.keep BL.out) HM.out).mono ?_
  rintro e w5 ⟨b1, er5, rfl, hb, hE⟩
  clear zKa0 zKa1 zKa2 zKa3 zKb0 zKb1 zKb2 zKb3
  have HW := hE
  clear hE
  have Ka := Lib.hid (Ka.out.keep hb)
  have Kb := Lib.hid (Kb.out.keep hb)
  have Rx := Lib.hid (Rx.out.keep hb)
  have Kx := Lib.hid (Kx.out.keep hb)
  have Ry := Lib.hid (Ry.out.keep hb)
  have Ky := Lib.hid (Ky.out.keep hb)
  have Ol := Lib.hid (Ol.out.keep hb)
  have Om := Lib.hid (Om.out.keep hb)
  have BL := Lib.hid (BL.out.trans (hb.mono BL.out.size))
  clear hb
  have zKa0 := Ka.out.c0
  have zKa1 := Ka.out.c1
  have zKa2 := Ka.out.c2
  have zKa3 := Ka.out.c3
  have zKb0 := Kb.out.c0
  have zKb1 := Kb.out.c1
  have zKb2 := Kb.out.c2
  have zKb3 := Kb.out.c3
  go_wp2_with fail
  refine (rDwin_any _ L k s h _ M k' s' h' _ (HR.out.keep BL.out) HL.out (HR'.out.keep BL.out) HM.out).mono ?_
  rintro e w6 ⟨b2, er6, rfl, hb, hE⟩
  clear zKa0 zKa1 zKa2 zKa3 zKb0 zKb1 zKb2 zKb3
  obtain ⟨rfl, rfl⟩ := win_uniq HW hE
  clear hE HW
  have Ka := Lib.hid (Ka.out.keep hb)
  have Kb := Lib.hid (Kb.out.keep hb)
  have Rx := Lib.hid (Rx.out.keep hb)
  have Kx := Lib.hid (Kx.out.keep hb)
  have Ry := Lib.hid (Ry.out.keep hb)
  have Ky := Lib.hid (Ky.out.keep hb)
  have Ol := Lib.hid (Ol.out.keep hb)
  have Om := Lib.hid (Om.out.keep hb)
  have BL := Lib.hid (BL.out.trans (hb.mono BL.out.size))
  clear hb
  go_upto_region 7 with fail
  have ⟨BX, BY, T⟩ : ∃ BX BY, LDp w (.slice oa L.length ca) k s h (.slice ob M.length cb) k' s' h' w1.heap.size (.slice ox X2.length cx) w2.heap.size (.slice oy X2.length cy) kk2 ss2 hh2 X2 BX vl BY vm Ds2 w6 := ⟨_, _, BL.out, Ka.out, Kb.out, Kx.out, Ky.out, Rx.out, Ry.out, Ol.out, Om.out⟩
  clear BL Ka Kb Kx Ky Rx Ry Ol Om
  refine wp_region_held_drew (S := (fun w' => LDp w (.slice oa L.length ca) k s h (.slice ob M.length cb) k' s' h' w1.heap.size (.slice ox X2.length cx) w2.heap.size (.slice oy X2.length cy) kk2 ss2 hh2 X2 BX vl BY vm Ds2 w')) (by kernel_rfl) (T.keep (to_drew (Below.refl _ _))) (fun hHeld => ?_)
  clear T
  obtain ⟨v0, hv0⟩ : ∃ v0, v0 = w6.drew := ⟨_, rfl⟩
  rw [← hv0] at hHeld ⊢
  clear hv0
  refine wpAnyH_take (i := 0) (oi := { dst := some 53, op := Op.load 62 (Operand.tmp 5), type := 62, pos := "law.go:57", after := #[], guard := none }) (v := ?_) rfl (by kernel_rfl) (by kernel_rfl) (by kernel_rfl) (fun _ _ _ h => h) (Or.inl ⟨by rfl, ?_⟩) (by assumption) ?_
  rotate_left
  · (intro wq hSw; (try dsimp only at hSw); have za0 := hSw.a.c0; have za1 := hSw.a.c1; have za2 := hSw.a.c2; have za3 := hSw.a.c3; have zb0 := hSw.b.c0; have zb1 := hSw.b.c1; have zb2 := hSw.b.c2; have zb3 := hSw.b.c3; have zx0 := hSw.x.c0; have zx1 := hSw.x.c1; have zx2 := hSw.x.c2; have zx3 := hSw.x.c3; have zy0 := hSw.y.c0; have zy1 := hSw.y.c1; have zy2 := hSw.y.c2; have zy3 := hSw.y.c3; clear hSw; go_simp; first | done | with_reducible rfl)
  try simp only [Act.put, List.setIfInBounds_toArray, List.set_cons_zero, List.set_cons_succ]
  refine wpAnyH_take (i := 1) (oi := { dst := some 54, op := Op.load 62 (Operand.tmp 7), type := 62, pos := "law.go:57", after := #[], guard := none }) (v := ?_) rfl (by kernel_rfl) (by kernel_rfl) (by kernel_rfl) (fun _ _ _ h => h) (Or.inl ⟨by rfl, ?_⟩) (by assumption) ?_
  rotate_left
  · (intro wq hSw; (try dsimp only at hSw); have za0 := hSw.a.c0; have za1 := hSw.a.c1; have za2 := hSw.a.c2; have za3 := hSw.a.c3; have zb0 := hSw.b.c0; have zb1 := hSw.b.c1; have zb2 := hSw.b.c2; have zb3 := hSw.b.c3; have zx0 := hSw.x.c0; have zx1 := hSw.x.c1; have zx2 := hSw.x.c2; have zx3 := hSw.x.c3; have zy0 := hSw.y.c0; have zy1 := hSw.y.c1; have zy2 := hSw.y.c2; have zy3 := hSw.y.c3; clear hSw; go_simp; first | done | with_reducible rfl)
  try simp only [Act.put, List.setIfInBounds_toArray, List.set_cons_zero, List.set_cons_succ]
  refine wpAnyH_ready (rs := [2]) (by kernel_rfl) (by simp) ?_
  refine AllReadyH.cons (o := { dst := some 55, op := Op.call { callee := Callee.value (Operand.func 66), args := #[Operand.tmp 53, Operand.tmp 54], argTypes := #[62, 62] }, type := 4, pos := "law.go:57", after := #[{ on := 0, ground := Ground.data }, { on := 1, ground := Ground.data }], guard := none }) rfl (fun K hK => ?_) AllReadyH.nil
  go_simp
  refine (Dequal_same _ _ X2 kk2 ss2 hh2 _ hHeld.rx hHeld.ry (by have := inP_len IX2.out; omega)).mono ?_
  rintro e v1 ⟨rfl, hq⟩
  have hq : Below v0.heap.size v0 v1 := ⟨hq.os, hq.tape, hq.output, hq.size, hq.block⟩
  have hS := hHeld.keep hq
  go_wp2_with fail
  refine hK.out _ _ hS (fun hHeld => ?_)
  clear hK K hHeld
  clear hq
  have hHeld := hS
  clear hS
  try simp only [Act.put, List.setIfInBounds_toArray, List.set_cons_zero, List.set_cons_succ]
  refine wpAnyH_take (i := 3) (oi := { dst := some 56, op := Op.move (Operand.tmp 55), type := 4, pos := "law.go:57", after := #[{ on := 2, ground := Ground.data }, { on := 2, ground := Ground.chain }], guard := none }) (v := ?_) rfl (by kernel_rfl) (by kernel_rfl) (by kernel_rfl) (fun _ _ _ h => h) (Or.inl ⟨by rfl, ?_⟩) (by assumption) ?_
  rotate_left
  · (intro wq hSw; (try dsimp only at hSw); have za0 := hSw.a.c0; have za1 := hSw.a.c1; have za2 := hSw.a.c2; have za3 := hSw.a.c3; have zb0 := hSw.b.c0; have zb1 := hSw.b.c1; have zb2 := hSw.b.c2; have zb3 := hSw.b.c3; have zx0 := hSw.x.c0; have zx1 := hSw.x.c1; have zx2 := hSw.x.c2; have zx3 := hSw.x.c3; have zy0 := hSw.y.c0; have zy1 := hSw.y.c1; have zy2 := hSw.y.c2; have zy3 := hSw.y.c3; clear hSw; go_simp; first | done | with_reducible rfl)
  try simp only [Act.put, List.setIfInBounds_toArray, List.set_cons_zero, List.set_cons_succ]
  refine wpAnyH_take (i := 4) (oi := { dst := some 57, op := Op.move (Operand.tmp 6), type := 24, pos := "law.go:57", after := #[{ on := 3, ground := Ground.guard }], guard := some (3, true) }) (v := ?_) rfl (by kernel_rfl) (by kernel_rfl) (by kernel_rfl) (fun _ _ _ h => h) (Or.inl ⟨by rfl, ?_⟩) (by assumption) ?_
  rotate_left
  · (intro wq hSw; (try dsimp only at hSw); have za0 := hSw.a.c0; have za1 := hSw.a.c1; have za2 := hSw.a.c2; have za3 := hSw.a.c3; have zb0 := hSw.b.c0; have zb1 := hSw.b.c1; have zb2 := hSw.b.c2; have zb3 := hSw.b.c3; have zx0 := hSw.x.c0; have zx1 := hSw.x.c1; have zx2 := hSw.x.c2; have zx3 := hSw.x.c3; have zy0 := hSw.y.c0; have zy1 := hSw.y.c1; have zy2 := hSw.y.c2; have zy3 := hSw.y.c3; clear hSw; go_simp; first | done | with_reducible rfl)
  try simp only [Act.put, List.setIfInBounds_toArray, List.set_cons_zero, List.set_cons_succ]
  refine wpAnyH_take (i := 5) (oi := { dst := some 58, op := Op.move (Operand.tmp 8), type := 24, pos := "law.go:57", after := #[{ on := 3, ground := Ground.guard }], guard := some (3, true) }) (v := ?_) rfl (by kernel_rfl) (by kernel_rfl) (by kernel_rfl) (fun _ _ _ h => h) (Or.inl ⟨by rfl, ?_⟩) (by assumption) ?_
  rotate_left
  · (intro wq hSw; (try dsimp only at hSw); have za0 := hSw.a.c0; have za1 := hSw.a.c1; have za2 := hSw.a.c2; have za3 := hSw.a.c3; have zb0 := hSw.b.c0; have zb1 := hSw.b.c1; have zb2 := hSw.b.c2; have zb3 := hSw.b.c3; have zx0 := hSw.x.c0; have zx1 := hSw.x.c1; have zx2 := hSw.x.c2; have zx3 := hSw.x.c3; have zy0 := hSw.y.c0; have zy1 := hSw.y.c1; have zy2 := hSw.y.c2; have zy3 := hSw.y.c3; clear hSw; go_simp; first | done | with_reducible rfl)
  try simp only [Act.put, List.setIfInBounds_toArray, List.set_cons_zero, List.set_cons_succ]
  refine wpAnyH_take (i := 6) (oi := { dst := some 59, op := Op.binOp BinOp.eql 24 (Operand.tmp 57) (Operand.tmp 58) 24, type := 4, pos := "law.go:57", after := #[{ on := 4, ground := Ground.data }, { on := 5, ground := Ground.data }, { on := 3, ground := Ground.guard }], guard := some (3, true) }) (v := ?_) rfl (by kernel_rfl) (by kernel_rfl) (by kernel_rfl) (fun _ _ _ h => h) (Or.inl ⟨by rfl, ?_⟩) (by assumption) ?_
  rotate_left
  · (intro wq hSw; (try dsimp only at hSw); have za0 := hSw.a.c0; have za1 := hSw.a.c1; have za2 := hSw.a.c2; have za3 := hSw.a.c3; have zb0 := hSw.b.c0; have zb1 := hSw.b.c1; have zb2 := hSw.b.c2; have zb3 := hSw.b.c3; have zx0 := hSw.x.c0; have zx1 := hSw.x.c1; have zx2 := hSw.x.c2; have zx3 := hSw.x.c3; have zy0 := hSw.y.c0; have zy1 := hSw.y.c1; have zy2 := hSw.y.c2; have zy3 := hSw.y.c3; clear hSw; go_simp; first | done | with_reducible rfl)
  try simp only [Act.put, List.setIfInBounds_toArray, List.set_cons_zero, List.set_cons_succ]
  refine wpAnyH_take (i := 7) (oi := { dst := some 60, op := Op.pick (Operand.tmp 56) (Operand.tmp 59) (Operand.const (Value.bool false)), type := 4, pos := "law.go:57", after := #[{ on := 3, ground := Ground.data }, { on := 6, ground := Ground.data }], guard := none }) (v := ?_) rfl (by kernel_rfl) (by kernel_rfl) (by kernel_rfl) (fun _ _ _ h => h) (Or.inl ⟨by rfl, ?_⟩) (by assumption) ?_
  rotate_left
  · (intro wq hSw; (try dsimp only at hSw); have za0 := hSw.a.c0; have za1 := hSw.a.c1; have za2 := hSw.a.c2; have za3 := hSw.a.c3; have zb0 := hSw.b.c0; have zb1 := hSw.b.c1; have zb2 := hSw.b.c2; have zb3 := hSw.b.c3; have zx0 := hSw.x.c0; have zx1 := hSw.x.c1; have zx2 := hSw.x.c2; have zx3 := hSw.x.c3; have zy0 := hSw.y.c0; have zy1 := hSw.y.c1; have zy2 := hSw.y.c2; have zy3 := hSw.y.c3; clear hSw; go_simp; first | done | with_reducible rfl)
  try simp only [Act.put, List.setIfInBounds_toArray, List.set_cons_zero, List.set_cons_succ]
  refine wpAnyH_take (i := 8) (oi := { dst := some 61, op := Op.move (Operand.tmp 60), type := 4, pos := "law.go:57", after := #[{ on := 7, ground := Ground.data }, { on := 3, ground := Ground.chain }], guard := none }) (v := ?_) rfl (by kernel_rfl) (by kernel_rfl) (by kernel_rfl) (fun _ _ _ h => h) (Or.inl ⟨by rfl, ?_⟩) (by assumption) ?_
  rotate_left
  · (intro wq hSw; (try dsimp only at hSw); have za0 := hSw.a.c0; have za1 := hSw.a.c1; have za2 := hSw.a.c2; have za3 := hSw.a.c3; have zb0 := hSw.b.c0; have zb1 := hSw.b.c1; have zb2 := hSw.b.c2; have zb3 := hSw.b.c3; have zx0 := hSw.x.c0; have zx1 := hSw.x.c1; have zx2 := hSw.x.c2; have zx3 := hSw.x.c3; have zy0 := hSw.y.c0; have zy1 := hSw.y.c1; have zy2 := hSw.y.c2; have zy3 := hSw.y.c3; clear hSw; go_simp; first | done | with_reducible rfl)
  try simp only [Act.put, List.setIfInBounds_toArray, List.set_cons_zero, List.set_cons_succ]
  refine wpAnyH_take (i := 9) (oi := { dst := some 62, op := Op.move (Operand.tmp 9), type := 77, pos := "law.go:57", after := #[{ on := 8, ground := Ground.guard }], guard := some (8, true) }) (v := ?_) rfl (by kernel_rfl) (by kernel_rfl) (by kernel_rfl) (fun _ _ _ h => h) (Or.inl ⟨by rfl, ?_⟩) (by assumption) ?_
  rotate_left
  · (intro wq hSw; (try dsimp only at hSw); have za0 := hSw.a.c0; have za1 := hSw.a.c1; have za2 := hSw.a.c2; have za3 := hSw.a.c3; have zb0 := hSw.b.c0; have zb1 := hSw.b.c1; have zb2 := hSw.b.c2; have zb3 := hSw.b.c3; have zx0 := hSw.x.c0; have zx1 := hSw.x.c1; have zx2 := hSw.x.c2; have zx3 := hSw.x.c3; have zy0 := hSw.y.c0; have zy1 := hSw.y.c1; have zy2 := hSw.y.c2; have zy3 := hSw.y.c3; clear hSw; go_simp; first | done | with_reducible rfl)
  try simp only [Act.put, List.setIfInBounds_toArray, List.set_cons_zero, List.set_cons_succ]
  refine wpAnyH_take (i := 10) (oi := { dst := some 63, op := Op.move (Operand.tmp 11), type := 77, pos := "law.go:57", after := #[{ on := 8, ground := Ground.guard }], guard := some (8, true) }) (v := ?_) rfl (by kernel_rfl) (by kernel_rfl) (by kernel_rfl) (fun _ _ _ h => h) (Or.inl ⟨by rfl, ?_⟩) (by assumption) ?_
  rotate_left
  · (intro wq hSw; (try dsimp only at hSw); have za0 := hSw.a.c0; have za1 := hSw.a.c1; have za2 := hSw.a.c2; have za3 := hSw.a.c3; have zb0 := hSw.b.c0; have zb1 := hSw.b.c1; have zb2 := hSw.b.c2; have zb3 := hSw.b.c3; have zx0 := hSw.x.c0; have zx1 := hSw.x.c1; have zx2 := hSw.x.c2; have zx3 := hSw.x.c3; have zy0 := hSw.y.c0; have zy1 := hSw.y.c1; have zy2 := hSw.y.c2; have zy3 := hSw.y.c3; clear hSw; go_simp; first | done | with_reducible rfl)
  try simp only [Act.put, List.setIfInBounds_toArray, List.set_cons_zero, List.set_cons_succ]
  refine wpAnyH_ready (rs := [11]) (by kernel_rfl) (by simp) ?_
  refine AllReadyH.cons (o := { dst := some 64, op := Op.call { callee := Callee.value (Operand.func 88), args := #[Operand.tmp 62, Operand.tmp 63, Operand.func 66], argTypes := #[77, 77, 68] }, type := 4, pos := "law.go:57", after := #[{ on := 9, ground := Ground.data }, { on := 10, ground := Ground.data }, { on := 8, ground := Ground.chain }, { on := 8, ground := Ground.guard }], guard := some (8, true) }) rfl (fun K hK => ?_) AllReadyH.nil
  go_simp
  refine (eqFuncD BX BY _ _ Ds2 k s h _ hHeld.ol hHeld.om (sbP_len SD2.out).1 (sbP_len SD2.out).2).mono ?_
  rintro e v2 ⟨rfl, hq⟩
  have hq : Below v1.heap.size v1 v2 := ⟨hq.os, hq.tape, hq.output, hq.size, hq.block⟩
  have hS := hHeld.keep hq
  go_wp2_with fail
  refine hK.out _ _ hS (fun hHeld => ?_)
  clear hK K hHeld
  clear hq
  have hHeld := hS
  clear hS
  try simp only [Act.put, List.setIfInBounds_toArray, List.set_cons_zero, List.set_cons_succ]
  refine wpAnyH_take (i := 12) (oi := { dst := some 65, op := Op.pick (Operand.tmp 61) (Operand.tmp 64) (Operand.const (Value.bool false)), type := 4, pos := "law.go:57", after := #[{ on := 8, ground := Ground.data }, { on := 11, ground := Ground.data }], guard := none }) (v := ?_) rfl (by kernel_rfl) (by kernel_rfl) (by kernel_rfl) (fun _ _ _ h => h) (Or.inl ⟨by rfl, ?_⟩) (by assumption) ?_
  rotate_left
  · (intro wq hSw; (try dsimp only at hSw); have za0 := hSw.a.c0; have za1 := hSw.a.c1; have za2 := hSw.a.c2; have za3 := hSw.a.c3; have zb0 := hSw.b.c0; have zb1 := hSw.b.c1; have zb2 := hSw.b.c2; have zb3 := hSw.b.c3; have zx0 := hSw.x.c0; have zx1 := hSw.x.c1; have zx2 := hSw.x.c2; have zx3 := hSw.x.c3; have zy0 := hSw.y.c0; have zy1 := hSw.y.c1; have zy2 := hSw.y.c2; have zy3 := hSw.y.c3; clear hSw; go_simp; first | done | with_reducible rfl)
  try simp only [Act.put, List.setIfInBounds_toArray, List.set_cons_zero, List.set_cons_succ]
  refine wpAnyH_take (i := 13) (oi := { dst := some 66, op := Op.move (Operand.tmp 65), type := 4, pos := "law.go:57", after := #[{ on := 12, ground := Ground.data }, { on := 11, ground := Ground.chain }], guard := none }) (v := ?_) rfl (by kernel_rfl) (by kernel_rfl) (by kernel_rfl) (fun _ _ _ h => h) (Or.inl ⟨by rfl, ?_⟩) (by assumption) ?_
  rotate_left
  · (intro wq hSw; (try dsimp only at hSw); have za0 := hSw.a.c0; have za1 := hSw.a.c1; have za2 := hSw.a.c2; have za3 := hSw.a.c3; have zb0 := hSw.b.c0; have zb1 := hSw.b.c1; have zb2 := hSw.b.c2; have zb3 := hSw.b.c3; have zx0 := hSw.x.c0; have zx1 := hSw.x.c1; have zx2 := hSw.x.c2; have zx3 := hSw.x.c3; have zy0 := hSw.y.c0; have zy1 := hSw.y.c1; have zy2 := hSw.y.c2; have zy3 := hSw.y.c3; clear hSw; go_simp; first | done | with_reducible rfl)
  try simp only [Act.put, List.setIfInBounds_toArray, List.set_cons_zero, List.set_cons_succ]
  refine wpAnyH_take (i := 14) (oi := { dst := some 67, op := Op.move (Operand.tmp 10), type := 24, pos := "law.go:57", after := #[{ on := 13, ground := Ground.guard }], guard := some (13, true) }) (v := ?_) rfl (by kernel_rfl) (by kernel_rfl) (by kernel_rfl) (fun _ _ _ h => h) (Or.inl ⟨by rfl, ?_⟩) (by assumption) ?_
  rotate_left
  · (intro wq hSw; (try dsimp only at hSw); have za0 := hSw.a.c0; have za1 := hSw.a.c1; have za2 := hSw.a.c2; have za3 := hSw.a.c3; have zb0 := hSw.b.c0; have zb1 := hSw.b.c1; have zb2 := hSw.b.c2; have zb3 := hSw.b.c3; have zx0 := hSw.x.c0; have zx1 := hSw.x.c1; have zx2 := hSw.x.c2; have zx3 := hSw.x.c3; have zy0 := hSw.y.c0; have zy1 := hSw.y.c1; have zy2 := hSw.y.c2; have zy3 := hSw.y.c3; clear hSw; go_simp; first | done | with_reducible rfl)
  try simp only [Act.put, List.setIfInBounds_toArray, List.set_cons_zero, List.set_cons_succ]
  refine wpAnyH_take (i := 15) (oi := { dst := some 68, op := Op.move (Operand.tmp 12), type := 24, pos := "law.go:57", after := #[{ on := 13, ground := Ground.guard }], guard := some (13, true) }) (v := ?_) rfl (by kernel_rfl) (by kernel_rfl) (by kernel_rfl) (fun _ _ _ h => h) (Or.inl ⟨by rfl, ?_⟩) (by assumption) ?_
  rotate_left
  · (intro wq hSw; (try dsimp only at hSw); have za0 := hSw.a.c0; have za1 := hSw.a.c1; have za2 := hSw.a.c2; have za3 := hSw.a.c3; have zb0 := hSw.b.c0; have zb1 := hSw.b.c1; have zb2 := hSw.b.c2; have zb3 := hSw.b.c3; have zx0 := hSw.x.c0; have zx1 := hSw.x.c1; have zx2 := hSw.x.c2; have zx3 := hSw.x.c3; have zy0 := hSw.y.c0; have zy1 := hSw.y.c1; have zy2 := hSw.y.c2; have zy3 := hSw.y.c3; clear hSw; go_simp; first | done | with_reducible rfl)
  try simp only [Act.put, List.setIfInBounds_toArray, List.set_cons_zero, List.set_cons_succ]
  refine wpAnyH_take (i := 16) (oi := { dst := some 69, op := Op.binOp BinOp.eql 24 (Operand.tmp 67) (Operand.tmp 68) 24, type := 4, pos := "law.go:57", after := #[{ on := 14, ground := Ground.data }, { on := 15, ground := Ground.data }, { on := 13, ground := Ground.guard }], guard := some (13, true) }) (v := ?_) rfl (by kernel_rfl) (by kernel_rfl) (by kernel_rfl) (fun _ _ _ h => h) (Or.inl ⟨by rfl, ?_⟩) (by assumption) ?_
  rotate_left
  · (intro wq hSw; (try dsimp only at hSw); have za0 := hSw.a.c0; have za1 := hSw.a.c1; have za2 := hSw.a.c2; have za3 := hSw.a.c3; have zb0 := hSw.b.c0; have zb1 := hSw.b.c1; have zb2 := hSw.b.c2; have zb3 := hSw.b.c3; have zx0 := hSw.x.c0; have zx1 := hSw.x.c1; have zx2 := hSw.x.c2; have zx3 := hSw.x.c3; have zy0 := hSw.y.c0; have zy1 := hSw.y.c1; have zy2 := hSw.y.c2; have zy3 := hSw.y.c3; clear hSw; go_simp; first | done | with_reducible rfl)
  try simp only [Act.put, List.setIfInBounds_toArray, List.set_cons_zero, List.set_cons_succ]
  refine wpAnyH_take (i := 17) (oi := { dst := some 70, op := Op.pick (Operand.tmp 66) (Operand.tmp 69) (Operand.const (Value.bool false)), type := 4, pos := "law.go:57", after := #[{ on := 13, ground := Ground.data }, { on := 16, ground := Ground.data }], guard := none }) (v := ?_) rfl (by kernel_rfl) (by kernel_rfl) (by kernel_rfl) (fun _ _ _ h => h) (Or.inl ⟨by rfl, ?_⟩) (by assumption) ?_
  rotate_left
  · (intro wq hSw; (try dsimp only at hSw); have za0 := hSw.a.c0; have za1 := hSw.a.c1; have za2 := hSw.a.c2; have za3 := hSw.a.c3; have zb0 := hSw.b.c0; have zb1 := hSw.b.c1; have zb2 := hSw.b.c2; have zb3 := hSw.b.c3; have zx0 := hSw.x.c0; have zx1 := hSw.x.c1; have zx2 := hSw.x.c2; have zx3 := hSw.x.c3; have zy0 := hSw.y.c0; have zy1 := hSw.y.c1; have zy2 := hSw.y.c2; have zy3 := hSw.y.c3; clear hSw; go_simp; first | done | with_reducible rfl)
  try simp only [Act.put, List.setIfInBounds_toArray, List.set_cons_zero, List.set_cons_succ]
  refine wpAnyH_take (i := 18) (oi := { dst := some 71, op := Op.move (Operand.tmp 70), type := 4, pos := "law.go:57", after := #[{ on := 17, ground := Ground.data }, { on := 13, ground := Ground.chain }], guard := none }) (v := ?_) rfl (by kernel_rfl) (by kernel_rfl) (by kernel_rfl) (fun _ _ _ h => h) (Or.inl ⟨by rfl, ?_⟩) (by assumption) ?_
  rotate_left
  · (intro wq hSw; (try dsimp only at hSw); have za0 := hSw.a.c0; have za1 := hSw.a.c1; have za2 := hSw.a.c2; have za3 := hSw.a.c3; have zb0 := hSw.b.c0; have zb1 := hSw.b.c1; have zb2 := hSw.b.c2; have zb3 := hSw.b.c3; have zx0 := hSw.x.c0; have zx1 := hSw.x.c1; have zx2 := hSw.x.c2; have zx3 := hSw.x.c3; have zy0 := hSw.y.c0; have zy1 := hSw.y.c1; have zy2 := hSw.y.c2; have zy3 := hSw.y.c3; clear hSw; go_simp; first | done | with_reducible rfl)
  try simp only [Act.put, List.setIfInBounds_toArray, List.set_cons_zero, List.set_cons_succ]
  refine wpAnyH_take (i := 19) (oi := { dst := some 72, op := Op.move (Operand.tmp 13), type := 4, pos := "law.go:57", after := #[{ on := 18, ground := Ground.guard }], guard := some (18, true) }) (v := ?_) rfl (by kernel_rfl) (by kernel_rfl) (by kernel_rfl) (fun _ _ _ h => h) (Or.inl ⟨by rfl, ?_⟩) (by assumption) ?_
  rotate_left
  · (intro wq hSw; (try dsimp only at hSw); have za0 := hSw.a.c0; have za1 := hSw.a.c1; have za2 := hSw.a.c2; have za3 := hSw.a.c3; have zb0 := hSw.b.c0; have zb1 := hSw.b.c1; have zb2 := hSw.b.c2; have zb3 := hSw.b.c3; have zx0 := hSw.x.c0; have zx1 := hSw.x.c1; have zx2 := hSw.x.c2; have zx3 := hSw.x.c3; have zy0 := hSw.y.c0; have zy1 := hSw.y.c1; have zy2 := hSw.y.c2; have zy3 := hSw.y.c3; clear hSw; go_simp; first | done | with_reducible rfl)
  try simp only [Act.put, List.setIfInBounds_toArray, List.set_cons_zero, List.set_cons_succ]
  refine wpAnyH_take (i := 20) (oi := { dst := some 73, op := Op.move (Operand.tmp 15), type := 4, pos := "law.go:57", after := #[{ on := 18, ground := Ground.guard }], guard := some (18, true) }) (v := ?_) rfl (by kernel_rfl) (by kernel_rfl) (by kernel_rfl) (fun _ _ _ h => h) (Or.inl ⟨by rfl, ?_⟩) (by assumption) ?_
  rotate_left
  · (intro wq hSw; (try dsimp only at hSw); have za0 := hSw.a.c0; have za1 := hSw.a.c1; have za2 := hSw.a.c2; have za3 := hSw.a.c3; have zb0 := hSw.b.c0; have zb1 := hSw.b.c1; have zb2 := hSw.b.c2; have zb3 := hSw.b.c3; have zx0 := hSw.x.c0; have zx1 := hSw.x.c1; have zx2 := hSw.x.c2; have zx3 := hSw.x.c3; have zy0 := hSw.y.c0; have zy1 := hSw.y.c1; have zy2 := hSw.y.c2; have zy3 := hSw.y.c3; clear hSw; go_simp; first | done | with_reducible rfl)
  try simp only [Act.put, List.setIfInBounds_toArray, List.set_cons_zero, List.set_cons_succ]
  refine wpAnyH_take (i := 21) (oi := { dst := some 74, op := Op.binOp BinOp.eql 4 (Operand.tmp 72) (Operand.tmp 73) 4, type := 4, pos := "law.go:57", after := #[{ on := 19, ground := Ground.data }, { on := 20, ground := Ground.data }, { on := 18, ground := Ground.guard }], guard := some (18, true) }) (v := ?_) rfl (by kernel_rfl) (by kernel_rfl) (by kernel_rfl) (fun _ _ _ h => h) (Or.inl ⟨by rfl, ?_⟩) (by assumption) ?_
  rotate_left
  · (intro wq hSw; (try dsimp only at hSw); have za0 := hSw.a.c0; have za1 := hSw.a.c1; have za2 := hSw.a.c2; have za3 := hSw.a.c3; have zb0 := hSw.b.c0; have zb1 := hSw.b.c1; have zb2 := hSw.b.c2; have zb3 := hSw.b.c3; have zx0 := hSw.x.c0; have zx1 := hSw.x.c1; have zx2 := hSw.x.c2; have zx3 := hSw.x.c3; have zy0 := hSw.y.c0; have zy1 := hSw.y.c1; have zy2 := hSw.y.c2; have zy3 := hSw.y.c3; clear hSw; go_simp; first | done | with_reducible rfl)
  try simp only [Act.put, List.setIfInBounds_toArray, List.set_cons_zero, List.set_cons_succ]
  refine wpAnyH_take (i := 22) (oi := { dst := some 75, op := Op.pick (Operand.tmp 71) (Operand.tmp 74) (Operand.const (Value.bool false)), type := 4, pos := "law.go:57", after := #[{ on := 18, ground := Ground.data }, { on := 21, ground := Ground.data }], guard := none }) (v := ?_) rfl (by kernel_rfl) (by kernel_rfl) (by kernel_rfl) (fun _ _ _ h => h) (Or.inl ⟨by rfl, ?_⟩) (by assumption) ?_
  rotate_left
  · (intro wq hSw; (try dsimp only at hSw); have za0 := hSw.a.c0; have za1 := hSw.a.c1; have za2 := hSw.a.c2; have za3 := hSw.a.c3; have zb0 := hSw.b.c0; have zb1 := hSw.b.c1; have zb2 := hSw.b.c2; have zb3 := hSw.b.c3; have zx0 := hSw.x.c0; have zx1 := hSw.x.c1; have zx2 := hSw.x.c2; have zx3 := hSw.x.c3; have zy0 := hSw.y.c0; have zy1 := hSw.y.c1; have zy2 := hSw.y.c2; have zy3 := hSw.y.c3; clear hSw; go_simp; first | done | with_reducible rfl)
  try simp only [Act.put, List.setIfInBounds_toArray, List.set_cons_zero, List.set_cons_succ]
  refine wpAnyH_take (i := 23) (oi := { dst := some 76, op := Op.move (Operand.tmp 75), type := 4, pos := "law.go:57", after := #[{ on := 22, ground := Ground.data }, { on := 18, ground := Ground.chain }], guard := none }) (v := ?_) rfl (by kernel_rfl) (by kernel_rfl) (by kernel_rfl) (fun _ _ _ h => h) (Or.inl ⟨by rfl, ?_⟩) (by assumption) ?_
  rotate_left
  · (intro wq hSw; (try dsimp only at hSw); have za0 := hSw.a.c0; have za1 := hSw.a.c1; have za2 := hSw.a.c2; have za3 := hSw.a.c3; have zb0 := hSw.b.c0; have zb1 := hSw.b.c1; have zb2 := hSw.b.c2; have zb3 := hSw.b.c3; have zx0 := hSw.x.c0; have zx1 := hSw.x.c1; have zx2 := hSw.x.c2; have zx3 := hSw.x.c3; have zy0 := hSw.y.c0; have zy1 := hSw.y.c1; have zy2 := hSw.y.c2; have zy3 := hSw.y.c3; clear hSw; go_simp; first | done | with_reducible rfl)
  try simp only [Act.put, List.setIfInBounds_toArray, List.set_cons_zero, List.set_cons_succ]
  refine wpAnyH_take (i := 24) (oi := { dst := some 77, op := Op.move (Operand.tmp 14), type := 24, pos := "law.go:57", after := #[{ on := 23, ground := Ground.guard }], guard := some (23, true) }) (v := ?_) rfl (by kernel_rfl) (by kernel_rfl) (by kernel_rfl) (fun _ _ _ h => h) (Or.inl ⟨by rfl, ?_⟩) (by assumption) ?_
  rotate_left
  · (intro wq hSw; (try dsimp only at hSw); have za0 := hSw.a.c0; have za1 := hSw.a.c1; have za2 := hSw.a.c2; have za3 := hSw.a.c3; have zb0 := hSw.b.c0; have zb1 := hSw.b.c1; have zb2 := hSw.b.c2; have zb3 := hSw.b.c3; have zx0 := hSw.x.c0; have zx1 := hSw.x.c1; have zx2 := hSw.x.c2; have zx3 := hSw.x.c3; have zy0 := hSw.y.c0; have zy1 := hSw.y.c1; have zy2 := hSw.y.c2; have zy3 := hSw.y.c3; clear hSw; go_simp; first | done | with_reducible rfl)
  try simp only [Act.put, List.setIfInBounds_toArray, List.set_cons_zero, List.set_cons_succ]
  refine wpAnyH_take (i := 25) (oi := { dst := some 78, op := Op.move (Operand.tmp 16), type := 24, pos := "law.go:57", after := #[{ on := 23, ground := Ground.guard }], guard := some (23, true) }) (v := ?_) rfl (by kernel_rfl) (by kernel_rfl) (by kernel_rfl) (fun _ _ _ h => h) (Or.inl ⟨by rfl, ?_⟩) (by assumption) ?_
  rotate_left
  · (intro wq hSw; (try dsimp only at hSw); have za0 := hSw.a.c0; have za1 := hSw.a.c1; have za2 := hSw.a.c2; have za3 := hSw.a.c3; have zb0 := hSw.b.c0; have zb1 := hSw.b.c1; have zb2 := hSw.b.c2; have zb3 := hSw.b.c3; have zx0 := hSw.x.c0; have zx1 := hSw.x.c1; have zx2 := hSw.x.c2; have zx3 := hSw.x.c3; have zy0 := hSw.y.c0; have zy1 := hSw.y.c1; have zy2 := hSw.y.c2; have zy3 := hSw.y.c3; clear hSw; go_simp; first | done | with_reducible rfl)
  try simp only [Act.put, List.setIfInBounds_toArray, List.set_cons_zero, List.set_cons_succ]
  refine wpAnyH_take (i := 26) (oi := { dst := some 79, op := Op.binOp BinOp.eql 24 (Operand.tmp 77) (Operand.tmp 78) 24, type := 4, pos := "law.go:57", after := #[{ on := 24, ground := Ground.data }, { on := 25, ground := Ground.data }, { on := 23, ground := Ground.guard }], guard := some (23, true) }) (v := ?_) rfl (by kernel_rfl) (by kernel_rfl) (by kernel_rfl) (fun _ _ _ h => h) (Or.inl ⟨by rfl, ?_⟩) (by assumption) ?_
  rotate_left
  · (intro wq hSw; (try dsimp only at hSw); have za0 := hSw.a.c0; have za1 := hSw.a.c1; have za2 := hSw.a.c2; have za3 := hSw.a.c3; have zb0 := hSw.b.c0; have zb1 := hSw.b.c1; have zb2 := hSw.b.c2; have zb3 := hSw.b.c3; have zx0 := hSw.x.c0; have zx1 := hSw.x.c1; have zx2 := hSw.x.c2; have zx3 := hSw.x.c3; have zy0 := hSw.y.c0; have zy1 := hSw.y.c1; have zy2 := hSw.y.c2; have zy3 := hSw.y.c3; clear hSw; go_simp; first | done | with_reducible rfl)
  try simp only [Act.put, List.setIfInBounds_toArray, List.set_cons_zero, List.set_cons_succ]
  refine wpAnyH_take (i := 27) (oi := { dst := some 80, op := Op.pick (Operand.tmp 76) (Operand.tmp 79) (Operand.const (Value.bool false)), type := 4, pos := "law.go:57", after := #[{ on := 23, ground := Ground.data }, { on := 26, ground := Ground.data }], guard := none }) (v := ?_) rfl (by kernel_rfl) (by kernel_rfl) (by kernel_rfl) (fun _ _ _ h => h) (Or.inl ⟨by rfl, ?_⟩) (by assumption) ?_
  rotate_left
  · (intro wq hSw; (try dsimp only at hSw); have za0 := hSw.a.c0; have za1 := hSw.a.c1; have za2 := hSw.a.c2; have za3 := hSw.a.c3; have zb0 := hSw.b.c0; have zb1 := hSw.b.c1; have zb2 := hSw.b.c2; have zb3 := hSw.b.c3; have zx0 := hSw.x.c0; have zx1 := hSw.x.c1; have zx2 := hSw.x.c2; have zx3 := hSw.x.c3; have zy0 := hSw.y.c0; have zy1 := hSw.y.c1; have zy2 := hSw.y.c2; have zy3 := hSw.y.c3; clear hSw; go_simp; first | done | with_reducible rfl)
  try simp only [Act.put, List.setIfInBounds_toArray, List.set_cons_zero, List.set_cons_succ]
  refine wpAnyH_take (i := 28) (oi := { dst := some 81, op := Op.move (Operand.tmp 80), type := 4, pos := "law.go:57", after := #[{ on := 27, ground := Ground.data }, { on := 23, ground := Ground.chain }], guard := none }) (v := ?_) rfl (by kernel_rfl) (by kernel_rfl) (by kernel_rfl) (fun _ _ _ h => h) (Or.inl ⟨by rfl, ?_⟩) (by assumption) ?_
  rotate_left
  · (intro wq hSw; (try dsimp only at hSw); have za0 := hSw.a.c0; have za1 := hSw.a.c1; have za2 := hSw.a.c2; have za3 := hSw.a.c3; have zb0 := hSw.b.c0; have zb1 := hSw.b.c1; have zb2 := hSw.b.c2; have zb3 := hSw.b.c3; have zx0 := hSw.x.c0; have zx1 := hSw.x.c1; have zx2 := hSw.x.c2; have zx3 := hSw.x.c3; have zy0 := hSw.y.c0; have zy1 := hSw.y.c1; have zy2 := hSw.y.c2; have zy3 := hSw.y.c3; clear hSw; go_simp; first | done | with_reducible rfl)
  try simp only [Act.put, List.setIfInBounds_toArray, List.set_cons_zero, List.set_cons_succ]
  refine wpAnyH_take (i := 29) (oi := { dst := some 82, op := Op.load 62 (Operand.tmp 2), type := 62, pos := "law.go:57", after := #[{ on := 28, ground := Ground.guard }], guard := some (28, true) }) (v := ?_) rfl (by kernel_rfl) (by kernel_rfl) (by kernel_rfl) (fun _ _ _ h => h) (Or.inl ⟨by rfl, ?_⟩) (by assumption) ?_
  rotate_left
  · (intro wq hSw; (try dsimp only at hSw); have za0 := hSw.a.c0; have za1 := hSw.a.c1; have za2 := hSw.a.c2; have za3 := hSw.a.c3; have zb0 := hSw.b.c0; have zb1 := hSw.b.c1; have zb2 := hSw.b.c2; have zb3 := hSw.b.c3; have zx0 := hSw.x.c0; have zx1 := hSw.x.c1; have zx2 := hSw.x.c2; have zx3 := hSw.x.c3; have zy0 := hSw.y.c0; have zy1 := hSw.y.c1; have zy2 := hSw.y.c2; have zy3 := hSw.y.c3; clear hSw; go_simp; first | done | with_reducible rfl)
  try simp only [Act.put, List.setIfInBounds_toArray, List.set_cons_zero, List.set_cons_succ]
  refine wpAnyH_take (i := 30) (oi := { dst := some 83, op := Op.load 62 (Operand.tmp 3), type := 62, pos := "law.go:57", after := #[{ on := 28, ground := Ground.guard }], guard := some (28, true) }) (v := ?_) rfl (by kernel_rfl) (by kernel_rfl) (by kernel_rfl) (fun _ _ _ h => h) (Or.inl ⟨by rfl, ?_⟩) (by assumption) ?_
  rotate_left
  · (intro wq hSw; (try dsimp only at hSw); have za0 := hSw.a.c0; have za1 := hSw.a.c1; have za2 := hSw.a.c2; have za3 := hSw.a.c3; have zb0 := hSw.b.c0; have zb1 := hSw.b.c1; have zb2 := hSw.b.c2; have zb3 := hSw.b.c3; have zx0 := hSw.x.c0; have zx1 := hSw.x.c1; have zx2 := hSw.x.c2; have zx3 := hSw.x.c3; have zy0 := hSw.y.c0; have zy1 := hSw.y.c1; have zy2 := hSw.y.c2; have zy3 := hSw.y.c3; clear hSw; go_simp; first | done | with_reducible rfl)
  try simp only [Act.put, List.setIfInBounds_toArray, List.set_cons_zero, List.set_cons_succ]
  refine wpAnyH_take (i := 32) (oi := { dst := some 85, op := Op.load 62 (Operand.tmp 2), type := 62, pos := "law.go:57", after := #[{ on := 28, ground := Ground.guard }], guard := some (28, true) }) (v := ?_) rfl (by kernel_rfl) (by kernel_rfl) (by kernel_rfl) (fun _ _ _ h => h) (Or.inl ⟨by rfl, ?_⟩) (by assumption) ?_
  rotate_left
  · (intro wq hSw; (try dsimp only at hSw); have za0 := hSw.a.c0; have za1 := hSw.a.c1; have za2 := hSw.a.c2; have za3 := hSw.a.c3; have zb0 := hSw.b.c0; have zb1 := hSw.b.c1; have zb2 := hSw.b.c2; have zb3 := hSw.b.c3; have zx0 := hSw.x.c0; have zx1 := hSw.x.c1; have zx2 := hSw.x.c2; have zx3 := hSw.x.c3; have zy0 := hSw.y.c0; have zy1 := hSw.y.c1; have zy2 := hSw.y.c2; have zy3 := hSw.y.c3; clear hSw; go_simp; first | done | with_reducible rfl)
  try simp only [Act.put, List.setIfInBounds_toArray, List.set_cons_zero, List.set_cons_succ]
  refine wpAnyH_take (i := 33) (oi := { dst := some 86, op := Op.load 62 (Operand.tmp 3), type := 62, pos := "law.go:57", after := #[{ on := 28, ground := Ground.guard }], guard := some (28, true) }) (v := ?_) rfl (by kernel_rfl) (by kernel_rfl) (by kernel_rfl) (fun _ _ _ h => h) (Or.inl ⟨by rfl, ?_⟩) (by assumption) ?_
  rotate_left
  · (intro wq hSw; (try dsimp only at hSw); have za0 := hSw.a.c0; have za1 := hSw.a.c1; have za2 := hSw.a.c2; have za3 := hSw.a.c3; have zb0 := hSw.b.c0; have zb1 := hSw.b.c1; have zb2 := hSw.b.c2; have zb3 := hSw.b.c3; have zx0 := hSw.x.c0; have zx1 := hSw.x.c1; have zx2 := hSw.x.c2; have zx3 := hSw.x.c3; have zy0 := hSw.y.c0; have zy1 := hSw.y.c1; have zy2 := hSw.y.c2; have zy3 := hSw.y.c3; clear hSw; go_simp; first | done | with_reducible rfl)
  try simp only [Act.put, List.setIfInBounds_toArray, List.set_cons_zero, List.set_cons_succ]
  refine wpAnyH_ready (rs := [31]) (by kernel_rfl) (by simp) ?_
  refine AllReadyH.cons (o := { dst := some 84, op := Op.call { callee := Callee.value (Operand.func 89), args := #[Operand.tmp 82, Operand.tmp 83], argTypes := #[62, 62] }, type := 4, pos := "law.go:57", after := #[{ on := 29, ground := Ground.data }, { on := 30, ground := Ground.data }, { on := 28, ground := Ground.chain }, { on := 28, ground := Ground.guard }], guard := some (28, true) }) rfl (fun K hK => ?_) AllReadyH.nil
  go_simp
  refine (Dsame_any _ L k s h _ M k' s' h' _ (HR.out.keep hHeld.below) HL.out (HR'.out.keep hHeld.below) HM.out).mono ?_
  rintro e v3 ⟨rfl, hq⟩
  have hq : Below v2.heap.size v2 v3 := ⟨hq.os, hq.tape, hq.output, hq.size, hq.block⟩
  have hS := hHeld.keep hq
  go_wp2_with fail
  refine hK.out _ _ hS (fun hHeld => ?_)
  clear hK K hHeld
  clear hq
  have hHeld := hS
  clear hS
  try simp only [Act.put, List.setIfInBounds_toArray, List.set_cons_zero, List.set_cons_succ]
  refine wpAnyH_ready (rs := [34]) (by kernel_rfl) (by simp) ?_
  refine AllReadyH.cons (o := { dst := some 87, op := Op.call { callee := Callee.value (Operand.func 90), args := #[Operand.tmp 85, Operand.tmp 86], argTypes := #[62, 62] }, type := 4, pos := "law.go:57", after := #[{ on := 32, ground := Ground.data }, { on := 33, ground := Ground.data }, { on := 31, ground := Ground.chain }, { on := 28, ground := Ground.guard }], guard := some (28, true) }) rfl (fun K hK => ?_) AllReadyH.nil
  go_simp
  refine (rDsame_any _ L k s h _ M k' s' h' _ (HR.out.keep hHeld.below) HL.out (HR'.out.keep hHeld.below) HM.out).mono ?_
  rintro e v4 ⟨rfl, hq⟩
  have hq : Below v3.heap.size v3 v4 := ⟨hq.os, hq.tape, hq.output, hq.size, hq.block⟩
  have hS := hHeld.keep hq
  go_wp2_with fail
  refine hK.out _ _ hS (fun hHeld => ?_)
  clear hK K hHeld
  clear hq
  have hHeld := hS
  clear hS
  try simp only [Act.put, List.setIfInBounds_toArray, List.set_cons_zero, List.set_cons_succ]
  refine wpAnyH_take (i := 35) (oi := { dst := some 88, op := Op.binOp BinOp.eql 4 (Operand.tmp 84) (Operand.tmp 87) 4, type := 4, pos := "law.go:57", after := #[{ on := 31, ground := Ground.data }, { on := 34, ground := Ground.data }, { on := 28, ground := Ground.guard }], guard := some (28, true) }) (v := ?_) rfl (by kernel_rfl) (by kernel_rfl) (by kernel_rfl) (fun _ _ _ h => h) (Or.inl ⟨by rfl, ?_⟩) (by assumption) ?_
  rotate_left
  · (intro wq hSw; (try dsimp only at hSw); have za0 := hSw.a.c0; have za1 := hSw.a.c1; have za2 := hSw.a.c2; have za3 := hSw.a.c3; have zb0 := hSw.b.c0; have zb1 := hSw.b.c1; have zb2 := hSw.b.c2; have zb3 := hSw.b.c3; have zx0 := hSw.x.c0; have zx1 := hSw.x.c1; have zx2 := hSw.x.c2; have zx3 := hSw.x.c3; have zy0 := hSw.y.c0; have zy1 := hSw.y.c1; have zy2 := hSw.y.c2; have zy3 := hSw.y.c3; clear hSw; go_simp; first | done | with_reducible rfl)
  try simp only [Act.put, List.setIfInBounds_toArray, List.set_cons_zero, List.set_cons_succ]
  refine wpAnyH_take (i := 36) (oi := { dst := some 89, op := Op.pick (Operand.tmp 81) (Operand.tmp 88) (Operand.const (Value.bool false)), type := 4, pos := "law.go:57", after := #[{ on := 28, ground := Ground.data }, { on := 35, ground := Ground.data }], guard := none }) (v := ?_) rfl (by kernel_rfl) (by kernel_rfl) (by kernel_rfl) (fun _ _ _ h => h) (Or.inl ⟨by rfl, ?_⟩) (by assumption) ?_
  rotate_left
  · (intro wq hSw; (try dsimp only at hSw); have za0 := hSw.a.c0; have za1 := hSw.a.c1; have za2 := hSw.a.c2; have za3 := hSw.a.c3; have zb0 := hSw.b.c0; have zb1 := hSw.b.c1; have zb2 := hSw.b.c2; have zb3 := hSw.b.c3; have zx0 := hSw.x.c0; have zx1 := hSw.x.c1; have zx2 := hSw.x.c2; have zx3 := hSw.x.c3; have zy0 := hSw.y.c0; have zy1 := hSw.y.c1; have zy2 := hSw.y.c2; have zy3 := hSw.y.c3; clear hSw; go_simp; first | done | with_reducible rfl)
  try simp only [Act.put, List.setIfInBounds_toArray, List.set_cons_zero, List.set_cons_succ]
  refine wpAnyH_take (i := 37) (oi := { dst := some 90, op := Op.move (Operand.tmp 89), type := 4, pos := "law.go:57", after := #[{ on := 36, ground := Ground.data }, { on := 34, ground := Ground.chain }], guard := none }) (v := ?_) rfl (by kernel_rfl) (by kernel_rfl) (by kernel_rfl) (fun _ _ _ h => h) (Or.inl ⟨by rfl, ?_⟩) (by assumption) ?_
  rotate_left
  · (intro wq hSw; (try dsimp only at hSw); have za0 := hSw.a.c0; have za1 := hSw.a.c1; have za2 := hSw.a.c2; have za3 := hSw.a.c3; have zb0 := hSw.b.c0; have zb1 := hSw.b.c1; have zb2 := hSw.b.c2; have zb3 := hSw.b.c3; have zx0 := hSw.x.c0; have zx1 := hSw.x.c1; have zx2 := hSw.x.c2; have zx3 := hSw.x.c3; have zy0 := hSw.y.c0; have zy1 := hSw.y.c1; have zy2 := hSw.y.c2; have zy3 := hSw.y.c3; clear hSw; go_simp; first | done | with_reducible rfl)
  try simp only [Act.put, List.setIfInBounds_toArray, List.set_cons_zero, List.set_cons_succ]
  refine wpAnyH_ready (rs := [38]) (by kernel_rfl) (by simp) ?_
  refine AllReadyH.cons (o := { dst := some 91, op := Op.call { callee := Callee.value (Operand.func 73), args := #[], argTypes := #[] }, type := 4, pos := "law.go:57", after := #[{ on := 37, ground := Ground.chain }, { on := 37, ground := Ground.guard }], guard := some (37, true) }) rfl (fun K hK => ?_) AllReadyH.nil
  go_simp
  refine (awake2_any _).mono ?_
  rintro e v5 ⟨rfl, hq⟩
  have hq : Below v4.heap.size v4 v5 := ⟨hq.os, hq.tape, hq.output, hq.size, hq.block⟩
  have hS := hHeld.keep hq
  go_wp2_with fail
  refine hK.out _ _ hS (fun hHeld => ?_)
  clear hK K hHeld
  clear hq
  have hHeld := hS
  clear hS
  try simp only [Act.put, List.setIfInBounds_toArray, List.set_cons_zero, List.set_cons_succ]
  refine wpAnyH_take (i := 39) (oi := { dst := some 92, op := Op.pick (Operand.tmp 90) (Operand.tmp 91) (Operand.const (Value.bool false)), type := 4, pos := "law.go:57", after := #[{ on := 37, ground := Ground.data }, { on := 38, ground := Ground.data }], guard := none }) (v := ?_) rfl (by kernel_rfl) (by kernel_rfl) (by kernel_rfl) (fun _ _ _ h => h) (Or.inl ⟨by rfl, ?_⟩) (by assumption) ?_
  rotate_left
  · (intro wq hSw; (try dsimp only at hSw); have za0 := hSw.a.c0; have za1 := hSw.a.c1; have za2 := hSw.a.c2; have za3 := hSw.a.c3; have zb0 := hSw.b.c0; have zb1 := hSw.b.c1; have zb2 := hSw.b.c2; have zb3 := hSw.b.c3; have zx0 := hSw.x.c0; have zx1 := hSw.x.c1; have zx2 := hSw.x.c2; have zx3 := hSw.x.c3; have zy0 := hSw.y.c0; have zy1 := hSw.y.c1; have zy2 := hSw.y.c2; have zy3 := hSw.y.c3; clear hSw; go_simp; first | done | with_reducible rfl)
  try simp only [Act.put, List.setIfInBounds_toArray, List.set_cons_zero, List.set_cons_succ]
  refine wpAnyH_take (i := 40) (oi := { dst := some 4, op := Op.assign (Operand.tmp 92), type := 4, pos := "law.go:57", after := #[{ on := 39, ground := Ground.data }, { on := 38, ground := Ground.chain }, { on := 0, ground := Ground.phase }, { on := 1, ground := Ground.phase }, { on := 2, ground := Ground.phase }, { on := 3, ground := Ground.phase }, { on := 4, ground := Ground.phase }, { on := 5, ground := Ground.phase }, { on := 6, ground := Ground.phase }, { on := 7, ground := Ground.phase }, { on := 8, ground := Ground.phase }, { on := 9, ground := Ground.phase }, { on := 10, ground := Ground.phase }, { on := 11, ground := Ground.phase }, { on := 12, ground := Ground.phase }, { on := 13, ground := Ground.phase }, { on := 14, ground := Ground.phase }, { on := 15, ground := Ground.phase }, { on := 16, ground := Ground.phase }, { on := 17, ground := Ground.phase }, { on := 18, ground := Ground.phase }, { on := 19, ground := Ground.phase }, { on := 20, ground := Ground.phase }, { on := 21, ground := Ground.phase }, { on := 22, ground := Ground.phase }, { on := 23, ground := Ground.phase }, { on := 24, ground := Ground.phase }, { on := 25, ground := Ground.phase }, { on := 26, ground := Ground.phase }, { on := 27, ground := Ground.phase }, { on := 28, ground := Ground.phase }, { on := 29, ground := Ground.phase }, { on := 30, ground := Ground.phase }, { on := 31, ground := Ground.phase }, { on := 32, ground := Ground.phase }, { on := 33, ground := Ground.phase }, { on := 34, ground := Ground.phase }, { on := 35, ground := Ground.phase }, { on := 36, ground := Ground.phase }, { on := 37, ground := Ground.phase }, { on := 38, ground := Ground.phase }, { on := 39, ground := Ground.phase }], guard := none }) (v := ?_) rfl (by kernel_rfl) (by kernel_rfl) (by kernel_rfl) (fun _ _ _ h => h) (Or.inl ⟨by rfl, ?_⟩) (by assumption) ?_
  rotate_left
  · (intro wq hSw; (try dsimp only at hSw); have za0 := hSw.a.c0; have za1 := hSw.a.c1; have za2 := hSw.a.c2; have za3 := hSw.a.c3; have zb0 := hSw.b.c0; have zb1 := hSw.b.c1; have zb2 := hSw.b.c2; have zb3 := hSw.b.c3; have zx0 := hSw.x.c0; have zx1 := hSw.x.c1; have zx2 := hSw.x.c2; have zx3 := hSw.x.c3; have zy0 := hSw.y.c0; have zy1 := hSw.y.c1; have zy2 := hSw.y.c2; have zy3 := hSw.y.c3; clear hSw; go_simp; first | done | with_reducible rfl)
  try simp only [Act.put, List.setIfInBounds_toArray, List.set_cons_zero, List.set_cons_succ]
  refine wpAnyH_done (by kernel_rfl) ?_ _
  have T9 := Lib.hid hHeld
  clear hHeld
  go_wp2
  exact bodyPost_ret (v := .bool true) (by simp [results, Try.results13, go_sem, *]) rfl ⟨rfl, T9.out.below⟩
end Go.Proofs.Ytabgphlpdoockaa
