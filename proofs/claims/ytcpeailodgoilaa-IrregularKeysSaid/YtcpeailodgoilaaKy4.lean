/-
  Part 4: IrO.
-/
import Derived.Test.YtcpeailodgoilaaKy3
import Derived.BigQuiet
import Derived.Deep.AppendLies
import Derived.Deep.CutBlock
import Derived.Deep.DeepCutAuto
import Derived.Deep.DeepFit
import Derived.Deep.DrawnRows
import Derived.Deep.LoopGhost
import Derived.Deep.QuietTactic
import Derived.Deep.RegionHeld3
import Derived.Deep.RegionWith
import Derived.Laws.AppendOwnNone
import Derived.Lib.Hide
import Derived.Maps.AppendAt
import Derived.WalkKit
import Derived.WalkLawsBesides
import Derived.WalkSpells
namespace Go.Proofs.Ytcpeailodgoilaa
open Go.RowKit
open Builtin in
/-- append onto a row of strings that the call owns, in a region: also of no elements -/
theorem step_append_str {w : World} {ops : Array Oper} {o : Oper} {a : Act} {K : Act → World → Prop} {Q : Exit → Act → World → Prop} {E : Prop} (hgd : o.guard = none) (s x : Operand)
    (ho : o.op = .call { callee := .builtin .append, args := #[s, x], argTypes := #[102, 102] }) (base : Nat)
    (v : Value) (n : Nat) (xs : List Value) (hs : a.eval s = v) (hown : w.ownsRow base 9 1 v n xs)
    (ad : Addr) (m c : Nat) (news : List Value) (hx : a.eval x = .slice (some ad) m c) (hl : news.length = m) (hnews : ∀ j u, news[j]? = some u → w.cell? (ad.add j) = some u) (h1 : ∀ u ∈ news, u.oneCell' = true)
    (h63 : n + m ≤ 20000) (hbase : base ≤ w.heap.size)
    (h : ∀ v' w', w'.ownsRow base 9 1 v' (n + m) (xs ++ news) → w.grownBy w' v.ownBlock → (v' = .slice none 0 0 ↔ v = .slice none 0 0 ∧ m = 0) → K (a.put o.dst v') w') :
    if Region.wanted o (yielded ops a.tmps) = true then Oper.wp Try.prog o a w K Q else E := by
  have hw : Region.wanted o (yielded ops a.tmps) = true := by simp [Region.wanted, hgd]
  obtain ⟨i0, hi, hz0, hz1, hz2⟩ := info_parts Try.infoStr
  obtain ⟨v', w', hr, h2, h3, h4, _⟩ := run_append_own_at (P := Try.prog) w base 102 o.type 9 i0 (.string ⟨#[]⟩) 1 16 Try.underlying102 hi hz0 hz1 hz2 rfl (by decide) v n xs hown ad m c news (by omega) hnews h1 (by unfold maxLen; omega) (by omega) hbase
  rw [if_pos hw]
  unfold Oper.wp execOp
  simp only [ho, resolve, invoke, builtin, Sem.run_bind, Sem.run_pure, Result.andThen_ok, List.map_toArray, List.map_cons, List.map_nil, hs, hx, hr]
  exact h v' w' h2 h3 h4
theorem put_asc {L : List Bs} (hA : Asc L) {k : Bs} (hk : k ∉ L) {j : Nat} (h1 : ∀ s ∈ L.take j, slt s k = true) (h2 : ∀ s, L[j]? = some s → slt s k = false) : L.take j ++ k :: L.drop j = mg kOr L [k] := by
  have hd : ∀ s ∈ L.drop j, slt k s = true := by
    intro s hs
    by_cases hj : j < L.length
    · have e := List.drop_eq_getElem_cons hj
      have hq := h2 L[j] (List.getElem?_eq_getElem hj)
      have hl : slt k L[j] = true := by
        cases c : slt k L[j] with
        | true => rfl
        | false => exact absurd (slt_total c hq) (fun e => hk (e ▸ List.getElem_mem hj))
      rw [e] at hs
      rcases List.mem_cons.1 hs with rfl | h
      · exact hl
      · have : Asc (L.drop j) := hA.sublist (List.drop_sublist j L)
        rw [e] at this
        exact slt_trans hl ((List.pairwise_cons.1 this).1 s h)
    · rw [List.drop_eq_nil_of_le (by omega)] at hs; cases hs
  refine asc_ext ?_ (mg_asc kOr L [k] hA (asc_one k)) (fun s => ?_)
  · refine List.pairwise_append.2 ⟨hA.sublist (List.take_sublist j L), List.pairwise_cons.2 ⟨hd, hA.sublist (List.drop_sublist j L)⟩, fun a ha b hb => ?_⟩
    rcases List.mem_cons.1 hb with rfl | hb
    · exact h1 a ha
    · exact slt_trans (h1 a ha) (hd b hb)
  · rw [mg_mem kOr L [k] hA (asc_one k)]
    have e : s ∈ L ↔ s ∈ L.take j ∨ s ∈ L.drop j := by rw [← List.mem_append, List.take_append_drop]
    simp only [List.mem_append, List.mem_cons, List.mem_singleton, kOr, e]
    by_cases a : s ∈ L.take j <;> by_cases b : s ∈ L.drop j <;> by_cases c : s = k <;> simp [a, b, c]
theorem sl_head (b o N c i : Nat) (hi : i ≤ c) : ∃ c', ∀ w, (Instr.sliceAt 102 (.slice (some ⟨b, o, none⟩) N c) none (some (.int .i64 (i : Int))) none).run Try.prog w = .ok (.slice (some ⟨b, o, none⟩) i c') w := by
  refine ⟨c, fun w => ?_⟩
  have ht : Try.prog.underlying 102 = some (.slice (Try.prog.elem 102)) := by kernel_rfl
  rw [run_sliceAt_slice (P := Try.prog) (t := 102) (h := ht), run_slice_h (P := Try.prog) (t := 102) (ht := ht) (h0 := by omega) (h2 := by omega)]
  have e2 : (sizeOf (Try.prog.elem 102)).run Try.prog w = .ok 1 w := by kernel_rfl
  rw [e2]
  simp only [Result.andThen_ok, sliced, Int.toNat_natCast, Nat.sub_zero, Nat.zero_mul]
  by_cases z : c = 0
  · rw [if_pos z]
  · rw [if_neg z]
    simp [Addr.add]
theorem sl_rest (b o N c i : Nat) (hi : i ≤ N) (hN : N ≤ c) : ∃ o' c', (∀ w, (Instr.sliceAt 102 (.slice (some ⟨b, o, none⟩) N c) (some (.int .i64 (i : Int))) none none).run Try.prog w = .ok (.slice (some ⟨b, o', none⟩) (N - i) c') w) ∧ (N - i = 0 ∨ o' = o + i) := by
  refine ⟨if c = i then o else o + i, c - i, fun w => ?_, ?_⟩
  · have ht : Try.prog.underlying 102 = some (.slice (Try.prog.elem 102)) := by kernel_rfl
    rw [run_sliceAt_slice (P := Try.prog) (t := 102) (h := ht), run_slice_l (P := Try.prog) (t := 102) (ht := ht) (h0 := by omega) (h1 := by omega)]
    have e2 : (sizeOf (Try.prog.elem 102)).run Try.prog w = .ok 1 w := by kernel_rfl
    rw [e2]
    simp only [Result.andThen_ok, sliced, Int.toNat_natCast, Nat.mul_one]
    by_cases z : c = i
    · rw [if_pos z, if_pos z]
    · rw [if_neg z, if_neg z]
      simp [Addr.add]
  · by_cases z : c = i
    · exact Or.inl (by omega)
    · exact Or.inr (if_neg z)
theorem strs_news {w W : World} {b o o' i : Nat} {L M : List Bs} (hb : b < w.heap.size) (hc : ∀ (j : Nat) (s : Bs), L[j]? = some s → w.cell? ⟨b, o + j, none⟩ = some (.string s)) (h : Below w.heap.size w W)
    (hM : ∀ (q : Nat) (s : Bs), M[q]? = some s → L[i + q]? = some s) (ho : M = [] ∨ o' = o + i) : ∀ (q : Nat) (u : Value), (M.map Value.string)[q]? = some u → W.cell? ((⟨b, o', none⟩ : Addr).add q) = some u := by
  intro q u hu
  have ad : (⟨b, o', none⟩ : Addr).add q = ⟨b, o' + q, none⟩ := by by_cases k0 : q = 0 <;> simp [Addr.add, k0]
  rw [List.getElem?_map] at hu
  cases e : M[q]? with
  | none => rw [e] at hu; cases hu
  | some s =>
    rw [e] at hu
    cases hu
    rcases ho with rfl | rfl
    · simp at e
    · rw [ad]
      have := hc _ s (hM q s e)
      rw [← Nat.add_assoc] at this
      exact (h.cell (p := ⟨b, o + i + q, none⟩) hb).trans this
theorem strs_one (M : List Bs) : ∀ u ∈ M.map Value.string, u.oneCell' = true := by
  intro u hu
  obtain ⟨s, _, rfl⟩ := List.mem_map.1 hu
  rfl
theorem i_below_new (w : World) (o : Obj) : Below w.heap.size w (w.alloc o) := (Below.refl _ _).alloc (Nat.le_refl _) o
theorem to_drewI {w w' : World} {B : Nat} (h : Below B w w') : Below B w w'.drew := ⟨h.os, h.tape, h.output, h.size, h.block⟩
theorem tk_get {L : List Bs} {j q : Nat} {s : Bs} (h : (L.take j)[q]? = some s) : L[q]? = some s := by
  rw [List.getElem?_take] at h
  split at h
  · exact h
  · cases h
theorem NWg {w w' : World} {g : Nat} {k v : Value} (h : ∀ (j : Nat) (u : Value), [k][j]? = some u → w.cell? ((⟨g, 0, none⟩ : Addr).add j) = some u) (hg : g < w.heap.size) (hne : v.ownBlock ≠ some g) (gr : w.grownBy w' v.ownBlock) : ∀ (j : Nat) (u : Value), [k][j]? = some u → w'.cell? ((⟨g, 0, none⟩ : Addr).add j) = some u := by
  intro j u hj
  have e := h j u hj
  have ad : (⟨g, 0, none⟩ : Addr).add j = ⟨g, j, none⟩ := by by_cases k0 : j = 0 <;> simp [Addr.add, k0]
  rw [ad] at e ⊢
  unfold World.cell? at e ⊢
  rw [gr.block g hg (fun e => hne e.symm)]
  exact e
theorem cell_keep1 {W W' : World} {g : Nat} {k : Value} (h : ∀ (j : Nat) (u : Value), [k][j]? = some u → W.cell? ((⟨g, 0, none⟩ : Addr).add j) = some u) (hg : g < W.heap.size) (hb : Below W.heap.size W W') : ∀ (j : Nat) (u : Value), [k][j]? = some u → W'.cell? ((⟨g, 0, none⟩ : Addr).add j) = some u := by
  intro j u hj
  have e := h j u hj
  have ad : (⟨g, 0, none⟩ : Addr).add j = ⟨g, j, none⟩ := by by_cases k0 : j = 0 <;> simp [Addr.add, k0]
  rw [ad] at e ⊢
  exact (hb.cell (p := ⟨g, j, none⟩) hg).trans e
set_option maxRecDepth 100000 in
set_option maxHeartbeats 12800000 in
theorem rput_some (b o cp : Nat) (L : List Bs) (k : Bs) (w : World) (hb : b < w.heap.size) (hc : Hid (∀ (j : Nat) (s : Bs), L[j]? = some s → w.cell? ⟨b, o + j, none⟩ = some (.string s))) (hcp : L.length ≤ cp) (hn : L.length ≤ 3000) (hA : Asc L) :
    Calls Try.prog 190 #[.slice (some ⟨b, o, none⟩) L.length cp, .string k] w fun e w' => ∃ v', e = .returned v' ∧ Hid (Rs w' v' (mg kOr L [k]) ∧ ∀ c, v' = .slice none 0 c → c = 0) ∧ Below w.heap.size w w' := by
  have HA := Lib.hid hA
  have RL : Hid (Rs w (.slice (some ⟨b, o, none⟩) L.length cp) L) := Lib.hid ⟨_, _, rfl, hcp, Or.inr ⟨b, o, rfl, hb, hc.out⟩⟩
  clear hA
  go_enter Try.func190, Try.ntmps190
  go_wp2_with fail
  refine (rhas_any _ L k _ RL.out (by omega)).mono ?_
  rintro e w1 ⟨rfl, rfl⟩
  by_cases hk : k ∈ L
  · have E : Hid (mg kOr L [k] = L) := Lib.hid (add_same HA.out hk)
    rw [decide_eq_true hk]
    clear hk
    go_wp2
    exact bodyPost_ret (v := .slice (some ⟨b, o, none⟩) L.length cp) (by simp [results, Try.results190, go_sem, *]) rfl ⟨_, rfl, Lib.hid ⟨by rw [E.out]; exact RL.out, fun c hc => by cases hc⟩, Below.refl _ _⟩
  · have HK := Lib.hid hk
    rw [decide_eq_false hk]
    clear hk
    go_wp2_with fail
    go_loopg [5] (L.length + 1) (fun gh v5 wr => ∃ j : Nat, v5 = .int .i64 j ∧ (j ≤ L.length ∧ L.length - j < gh) ∧ Hid (∀ s ∈ L.take j, slt s k = true) ∧ wr = w)
    case atStart => exact ⟨0, rfl, ⟨by omega, by omega⟩, Lib.hid (by simp), rfl⟩
    case round =>
      obtain ⟨j, rfl, ⟨j0, jg⟩, hE, rfl⟩ := hrel
      have KG := Lib.hid jg
      clear jg
      have jw : IntKind.i64.wrap ((j : Int) + 1) = (j : Int) + 1 := IntWalk.i64_in _ (by omega)
      by_cases hj : j < L.length
      · obtain ⟨s, hs⟩ : ∃ s, L[j]? = some s := ⟨L[j], List.getElem?_eq_getElem hj⟩
        have p0 := hc.out j s hs
        have FS := Lib.hid hs
        have jl : (j : Int) < (L.length : Int) := by omega
        clear hs
        cases c : Op.bytesLess s.toList k.toList
        · have P2 : Hid (∀ s, L[j]? = some s → slt s k = false) := Lib.hid (fun t ht => by rw [FS.out] at ht; cases ht; exact c)
          have EQ := Lib.hid (put_asc HA.out HK.out hE.out P2.out)
          go_upto_region 6 with fail
          obtain ⟨c1, hs1⟩ := sl_head b o L.length cp j (by omega)
          obtain ⟨o2, c2, hs2, sr⟩ := sl_rest b o L.length cp j (by omega) hcp
          have SR := Lib.hid sr
          clear sr
          refine wp_region_held_drew (S := (fun w' => Below wr.heap.size wr w')) (by kernel_rfl) (to_drewI (Below.refl _ _)) (fun hHeld => ?_)
          generalize wr.drew = v0 at *
          refine wpAnyH_take (i := 1) (oi := { dst := some 25, op := Op.move (Operand.tmp 0), type := 102, pos := "ref.go:311", after := #[], guard := none }) (v := ?_) rfl (by kernel_rfl) (by kernel_rfl) (by kernel_rfl) (fun _ _ _ h => h) (Or.inl ⟨by rfl, ?_⟩) (by assumption) ?_
          rotate_left
          · (intro wq hSw; (try dsimp only at hSw); have zz := hSw; clear zz; clear hSw; go_simp; first | done | with_reducible rfl)
          try simp only [Act.put, List.setIfInBounds_toArray, List.set_cons_zero, List.set_cons_succ]
          refine wpAnyH_take (i := 2) (oi := { dst := some 26, op := Op.move (Operand.tmp 5), type := 3, pos := "ref.go:311", after := #[], guard := none }) (v := ?_) rfl (by kernel_rfl) (by kernel_rfl) (by kernel_rfl) (fun _ _ _ h => h) (Or.inl ⟨by rfl, ?_⟩) (by assumption) ?_
          rotate_left
          · (intro wq hSw; (try dsimp only at hSw); have zz := hSw; clear zz; clear hSw; go_simp; first | done | with_reducible rfl)
          try simp only [Act.put, List.setIfInBounds_toArray, List.set_cons_zero, List.set_cons_succ]
          refine wpAnyH_take (i := 3) (oi := { dst := some 27, op := Op.slice 102 (Operand.tmp 25) none (some (Operand.tmp 26)) none, type := 102, pos := "ref.go:311", after := #[{ on := 1, ground := Ground.data }, { on := 2, ground := Ground.data }], guard := none }) (v := ?_) rfl (by kernel_rfl) (by kernel_rfl) (by kernel_rfl) (fun _ _ _ h => h) (Or.inl ⟨by rfl, ?_⟩) (by assumption) ?_
          rotate_left
          · (intro wq hSw; (try dsimp only at hSw); have zz := hSw; clear zz; clear hSw; go_simp; first | done | with_reducible rfl)
          try simp only [Act.put, List.setIfInBounds_toArray, List.set_cons_zero, List.set_cons_succ]
          refine wpAnyH_take (i := 5) (oi := { dst := some 29, op := Op.move (Operand.tmp 1), type := 9, pos := "ref.go:311", after := #[], guard := none }) (v := ?_) rfl (by kernel_rfl) (by kernel_rfl) (by kernel_rfl) (fun _ _ _ h => h) (Or.inl ⟨by rfl, ?_⟩) (by assumption) ?_
          rotate_left
          · (intro wq hSw; (try dsimp only at hSw); have zz := hSw; clear zz; clear hSw; go_simp; first | done | with_reducible rfl)
          try simp only [Act.put, List.setIfInBounds_toArray, List.set_cons_zero, List.set_cons_succ]
          refine wpAnyH_take (i := 8) (oi := { dst := some 32, op := Op.move (Operand.tmp 0), type := 102, pos := "ref.go:311", after := #[], guard := none }) (v := ?_) rfl (by kernel_rfl) (by kernel_rfl) (by kernel_rfl) (fun _ _ _ h => h) (Or.inl ⟨by rfl, ?_⟩) (by assumption) ?_
          rotate_left
          · (intro wq hSw; (try dsimp only at hSw); have zz := hSw; clear zz; clear hSw; go_simp; first | done | with_reducible rfl)
          try simp only [Act.put, List.setIfInBounds_toArray, List.set_cons_zero, List.set_cons_succ]
          refine wpAnyH_take (i := 9) (oi := { dst := some 33, op := Op.move (Operand.tmp 5), type := 3, pos := "ref.go:311", after := #[], guard := none }) (v := ?_) rfl (by kernel_rfl) (by kernel_rfl) (by kernel_rfl) (fun _ _ _ h => h) (Or.inl ⟨by rfl, ?_⟩) (by assumption) ?_
          rotate_left
          · (intro wq hSw; (try dsimp only at hSw); have zz := hSw; clear zz; clear hSw; go_simp; first | done | with_reducible rfl)
          try simp only [Act.put, List.setIfInBounds_toArray, List.set_cons_zero, List.set_cons_succ]
          refine wpAnyH_take (i := 10) (oi := { dst := some 34, op := Op.slice 102 (Operand.tmp 32) (some (Operand.tmp 33)) none none, type := 102, pos := "ref.go:311", after := #[{ on := 8, ground := Ground.data }, { on := 9, ground := Ground.data }], guard := none }) (v := ?_) rfl (by kernel_rfl) (by kernel_rfl) (by kernel_rfl) (fun _ _ _ h => h) (Or.inl ⟨by rfl, ?_⟩) (by assumption) ?_
          rotate_left
          · (intro wq hSw; (try dsimp only at hSw); have zz := hSw; clear zz; clear hSw; go_simp; first | done | with_reducible rfl)
          try simp only [Act.put, List.setIfInBounds_toArray, List.set_cons_zero, List.set_cons_succ]
          refine wpAnyH_ready (rs := [0, 6]) (by kernel_rfl) (by simp) ?_
          refine AllReadyH.cons (o := { dst := some 24, op := Op.buildSlice 102 0 #[], type := 102, pos := "ref.go:311", after := #[], guard := none }) rfl (fun K hK => ?_) ?_
          · go_simp
            have nb := i_below_new v0 (.cells #[] 9)
            have OA : (v0.alloc (.cells #[] 9)).ownsRow wr.heap.size 9 1 (.slice (some ⟨v0.heap.size, 0, none⟩) 0 0) 0 [] := World.ownsRow_lit v0 #[] 0 hHeld.size (by unfold maxLen; omega) (by simp)
            have hS := hHeld.trans (nb.mono hHeld.size)
            refine hK.out _ _ hS (fun hHeld => ?_)
            clear hK K hHeld
            clear nb
            generalize v0.alloc (.cells #[] 9) = v1 at *
            have hHeld := hS
            clear hS
            try simp only [Act.put, List.setIfInBounds_toArray, List.set_cons_zero, List.set_cons_succ]
            refine wpAnyH_ready (rs := [4, 6]) (by kernel_rfl) (by simp) ?_
            refine AllReadyH.cons (o := { dst := some 28, op := Op.call { callee := Callee.builtin Builtin.append, args := #[Operand.tmp 24, Operand.tmp 27], argTypes := #[102, 102] }, type := 102, pos := "ref.go:311", after := #[{ on := 0, ground := Ground.data }, { on := 3, ground := Ground.data }], guard := none }) rfl (fun K hK => ?_) ?_
            · refine step_append_str rfl (.tmp 24) (.tmp 27) rfl wr.heap.size (.slice (some ⟨v0.heap.size, 0, none⟩) 0 0) 0 [] (by simp [Act.eval, Act.put]) OA ⟨b, o, none⟩ j c1 ((L.take j).map Value.string) (by simp [Act.eval, Act.put]) (by simp; omega) (strs_news hb hc.out hHeld (i := 0) (fun q s h => by rw [Nat.zero_add]; exact tk_get h) (Or.inr rfl)) (strs_one _) (by omega) hHeld.size ?_
              intro av4 v2 OA2 grow2 hnil
              have hq : Below wr.heap.size v1 v2 := (Below.refl _ _).grown grow2 hHeld.size (fun g hg => (OA.lt g hg).1)
              have hS := hHeld.trans hq
              refine hK.out _ _ hS (fun hHeld => ?_)
              clear hK K hHeld
              have OA := OA2
              clear OA2 grow2 hq hnil
              have hHeld := hS
              clear hS
              try simp only [Act.put, List.setIfInBounds_toArray, List.set_cons_zero, List.set_cons_succ]
              refine wpAnyH_ready (rs := [6]) (by kernel_rfl) (by simp) ?_
              refine AllReadyH.cons (o := { dst := some 30, op := Op.buildSlice 102 1 #[(0, Operand.tmp 29)], type := 102, pos := "ref.go:311", after := #[{ on := 5, ground := Ground.data }], guard := none }) rfl (fun K hK => ?_) AllReadyH.nil
              go_simp
              have NE : (av4 : Value).ownBlock ≠ some v2.heap.size := fun e => by have := (OA.lt _ e).2; omega
              have nb := i_below_new v2 (.cells #[.string k] 9)
              have OA := i_own_below OA nb
              have NW := cell_one_new v2 (.string k) 9
              have NL : v2.heap.size < (v2.alloc (.cells #[.string k] 9)).heap.size := by simp
              have hS := hHeld.trans (nb.mono hHeld.size)
              refine hK.out _ _ hS (fun hHeld => ?_)
              clear hK K hHeld
              clear nb
              generalize v2.alloc (.cells #[.string k] 9) = v3 at *
              have hHeld := hS
              clear hS
              try simp only [Act.put, List.setIfInBounds_toArray, List.set_cons_zero, List.set_cons_succ]
              refine wpAnyH_ready (rs := [7]) (by kernel_rfl) (by simp) ?_
              refine AllReadyH.cons (o := { dst := some 31, op := Op.call { callee := Callee.builtin Builtin.append, args := #[Operand.tmp 28, Operand.tmp 30], argTypes := #[102, 102] }, type := 102, pos := "ref.go:311", after := #[{ on := 4, ground := Ground.data }, { on := 6, ground := Ground.data }, { on := 4, ground := Ground.chain }], guard := none }) rfl (fun K hK => ?_) AllReadyH.nil
              refine step_append_str rfl (.tmp 28) (.tmp 30) rfl wr.heap.size av4 (0 + j) ([] ++ ((L.take j).map Value.string)) (by simp [Act.eval, Act.put]) OA ⟨v2.heap.size, 0, none⟩ 1 1 [.string k] (by simp [Act.eval, Act.put]) rfl NW (strs_one [k]) (by omega) hHeld.size ?_
              intro av7 v4 OA2 grow2 hnil
              have hq : Below wr.heap.size v3 v4 := (Below.refl _ _).grown grow2 hHeld.size (fun g hg => (OA.lt g hg).1)
              have hS := hHeld.trans hq
              refine hK.out _ _ hS (fun hHeld => ?_)
              clear hK K hHeld
              have OA := OA2
              clear OA2 grow2 hq hnil
              have hHeld := hS
              clear hS
              try simp only [Act.put, List.setIfInBounds_toArray, List.set_cons_zero, List.set_cons_succ]
              refine wpAnyH_ready (rs := [11]) (by kernel_rfl) (by simp) ?_
              refine AllReadyH.cons (o := { dst := some 35, op := Op.call { callee := Callee.builtin Builtin.append, args := #[Operand.tmp 31, Operand.tmp 34], argTypes := #[102, 102] }, type := 102, pos := "ref.go:311", after := #[{ on := 7, ground := Ground.data }, { on := 10, ground := Ground.data }, { on := 7, ground := Ground.chain }], guard := none }) rfl (fun K hK => ?_) AllReadyH.nil
              refine step_append_str rfl (.tmp 31) (.tmp 34) rfl wr.heap.size av7 ((0 + j) + 1) (([] ++ ((L.take j).map Value.string)) ++ [.string k]) (by simp [Act.eval, Act.put]) OA ⟨b, o2, none⟩ (L.length - j) c2 ((L.drop j).map Value.string) (by simp [Act.eval, Act.put]) (by simp) (strs_news hb hc.out hHeld (i := j) (fun q s h => by rwa [List.getElem?_drop] at h) (SR.out.imp (fun h => List.drop_eq_nil_of_le (by omega)) id)) (strs_one _) (by omega) hHeld.size ?_
              intro av11 v5 OA2 grow2 hnil
              have hq : Below wr.heap.size v4 v5 := (Below.refl _ _).grown grow2 hHeld.size (fun g hg => (OA.lt g hg).1)
              have hS := hHeld.trans hq
              refine hK.out _ _ hS (fun hHeld => ?_)
              clear hK K hHeld
              have OA := OA2
              clear OA2 grow2 hq
              have hHeld := hS
              clear hS
              try simp only [Act.put, List.setIfInBounds_toArray, List.set_cons_zero, List.set_cons_succ]
              refine wpAnyH_take (i := 12) (oi := { dst := some 4, op := Op.assign (Operand.tmp 35), type := 102, pos := "ref.go:311", after := #[{ on := 11, ground := Ground.data }, { on := 11, ground := Ground.chain }, { on := 0, ground := Ground.phase }, { on := 1, ground := Ground.phase }, { on := 2, ground := Ground.phase }, { on := 3, ground := Ground.phase }, { on := 4, ground := Ground.phase }, { on := 5, ground := Ground.phase }, { on := 6, ground := Ground.phase }, { on := 7, ground := Ground.phase }, { on := 8, ground := Ground.phase }, { on := 9, ground := Ground.phase }, { on := 10, ground := Ground.phase }, { on := 11, ground := Ground.phase }], guard := none }) (v := ?_) rfl (by kernel_rfl) (by kernel_rfl) (by kernel_rfl) (fun _ _ _ h => h) (Or.inl ⟨by rfl, ?_⟩) (by assumption) ?_
              rotate_left
              · (intro wq hSw; (try dsimp only at hSw); have zz := hSw; clear zz; clear hSw; go_simp; first | done | with_reducible rfl)
              try simp only [Act.put, List.setIfInBounds_toArray, List.set_cons_zero, List.set_cons_succ]
              refine wpAnyH_done (by kernel_rfl) ?_ _
              have OZ : Hid (v5.ownsRow wr.heap.size 9 1 av11 (mg kOr L [k]).length ((mg kOr L [k]).map Value.string)) := Lib.hid (by
                have e : 0 + j + 1 + (L.length - j) = (mg kOr L [k]).length := by rw [← EQ.out]; simp; omega
                have q := OA
                rw [e] at q
                rw [← EQ.out] at q ⊢
                simpa using q)
              have BZ := Lib.hid hHeld
              have HZ : Hid ((mg kOr L [k]).length ≠ 0) := Lib.hid (by rw [← EQ.out]; simp)
              clear hHeld OA
              obtain ⟨za, zc, rfl⟩ := i_own_slice OZ.out
              go_wp2
              exact bodyPost_ret (v := .slice za (mg kOr L [k]).length zc) (by simp [results, Try.results190, go_sem, *]) rfl ⟨_, rfl, Lib.hid ⟨Rs.of_own OZ.out, fun c hc => by injection hc with h1 h2 h3; exact absurd h2 HZ.out⟩, BZ.out⟩
            refine AllReadyH.cons (o := { dst := some 30, op := Op.buildSlice 102 1 #[(0, Operand.tmp 29)], type := 102, pos := "ref.go:311", after := #[{ on := 5, ground := Ground.data }], guard := none }) rfl (fun K hK => ?_) ?_
            · go_simp
              have NE : ((.slice (some ⟨v0.heap.size, 0, none⟩) 0 0) : Value).ownBlock ≠ some v1.heap.size := fun e => by have := (OA.lt _ e).2; omega
              have nb := i_below_new v1 (.cells #[.string k] 9)
              have OA := i_own_below OA nb
              have NW := cell_one_new v1 (.string k) 9
              have NL : v1.heap.size < (v1.alloc (.cells #[.string k] 9)).heap.size := by simp
              have hS := hHeld.trans (nb.mono hHeld.size)
              refine hK.out _ _ hS (fun hHeld => ?_)
              clear hK K hHeld
              clear nb
              generalize v1.alloc (.cells #[.string k] 9) = v6 at *
              have hHeld := hS
              clear hS
              try simp only [Act.put, List.setIfInBounds_toArray, List.set_cons_zero, List.set_cons_succ]
              refine wpAnyH_ready (rs := [4]) (by kernel_rfl) (by simp) ?_
              refine AllReadyH.cons (o := { dst := some 28, op := Op.call { callee := Callee.builtin Builtin.append, args := #[Operand.tmp 24, Operand.tmp 27], argTypes := #[102, 102] }, type := 102, pos := "ref.go:311", after := #[{ on := 0, ground := Ground.data }, { on := 3, ground := Ground.data }], guard := none }) rfl (fun K hK => ?_) AllReadyH.nil
              refine step_append_str rfl (.tmp 24) (.tmp 27) rfl wr.heap.size (.slice (some ⟨v0.heap.size, 0, none⟩) 0 0) 0 [] (by simp [Act.eval, Act.put]) OA ⟨b, o, none⟩ j c1 ((L.take j).map Value.string) (by simp [Act.eval, Act.put]) (by simp; omega) (strs_news hb hc.out hHeld (i := 0) (fun q s h => by rw [Nat.zero_add]; exact tk_get h) (Or.inr rfl)) (strs_one _) (by omega) hHeld.size ?_
              intro av4 v7 OA2 grow2 hnil
              have hq : Below wr.heap.size v6 v7 := (Below.refl _ _).grown grow2 hHeld.size (fun g hg => (OA.lt g hg).1)
              have hS := hHeld.trans hq
              have NW := NWg NW NL NE grow2
              have NL := Nat.lt_of_lt_of_le NL grow2.size
              refine hK.out _ _ hS (fun hHeld => ?_)
              clear hK K hHeld
              have OA := OA2
              clear OA2 grow2 hq hnil
              have hHeld := hS
              clear hS
              try simp only [Act.put, List.setIfInBounds_toArray, List.set_cons_zero, List.set_cons_succ]
              refine wpAnyH_ready (rs := [7]) (by kernel_rfl) (by simp) ?_
              refine AllReadyH.cons (o := { dst := some 31, op := Op.call { callee := Callee.builtin Builtin.append, args := #[Operand.tmp 28, Operand.tmp 30], argTypes := #[102, 102] }, type := 102, pos := "ref.go:311", after := #[{ on := 4, ground := Ground.data }, { on := 6, ground := Ground.data }, { on := 4, ground := Ground.chain }], guard := none }) rfl (fun K hK => ?_) AllReadyH.nil
              refine step_append_str rfl (.tmp 28) (.tmp 30) rfl wr.heap.size av4 (0 + j) ([] ++ ((L.take j).map Value.string)) (by simp [Act.eval, Act.put]) OA ⟨v1.heap.size, 0, none⟩ 1 1 [.string k] (by simp [Act.eval, Act.put]) rfl NW (strs_one [k]) (by omega) hHeld.size ?_
              intro av7 v8 OA2 grow2 hnil
              have hq : Below wr.heap.size v7 v8 := (Below.refl _ _).grown grow2 hHeld.size (fun g hg => (OA.lt g hg).1)
              have hS := hHeld.trans hq
              refine hK.out _ _ hS (fun hHeld => ?_)
              clear hK K hHeld
              have OA := OA2
              clear OA2 grow2 hq hnil
              have hHeld := hS
              clear hS
              try simp only [Act.put, List.setIfInBounds_toArray, List.set_cons_zero, List.set_cons_succ]
              refine wpAnyH_ready (rs := [11]) (by kernel_rfl) (by simp) ?_
              refine AllReadyH.cons (o := { dst := some 35, op := Op.call { callee := Callee.builtin Builtin.append, args := #[Operand.tmp 31, Operand.tmp 34], argTypes := #[102, 102] }, type := 102, pos := "ref.go:311", after := #[{ on := 7, ground := Ground.data }, { on := 10, ground := Ground.data }, { on := 7, ground := Ground.chain }], guard := none }) rfl (fun K hK => ?_) AllReadyH.nil
              refine step_append_str rfl (.tmp 31) (.tmp 34) rfl wr.heap.size av7 ((0 + j) + 1) (([] ++ ((L.take j).map Value.string)) ++ [.string k]) (by simp [Act.eval, Act.put]) OA ⟨b, o2, none⟩ (L.length - j) c2 ((L.drop j).map Value.string) (by simp [Act.eval, Act.put]) (by simp) (strs_news hb hc.out hHeld (i := j) (fun q s h => by rwa [List.getElem?_drop] at h) (SR.out.imp (fun h => List.drop_eq_nil_of_le (by omega)) id)) (strs_one _) (by omega) hHeld.size ?_
              intro av11 v9 OA2 grow2 hnil
              have hq : Below wr.heap.size v8 v9 := (Below.refl _ _).grown grow2 hHeld.size (fun g hg => (OA.lt g hg).1)
              have hS := hHeld.trans hq
              refine hK.out _ _ hS (fun hHeld => ?_)
              clear hK K hHeld
              have OA := OA2
              clear OA2 grow2 hq
              have hHeld := hS
              clear hS
              try simp only [Act.put, List.setIfInBounds_toArray, List.set_cons_zero, List.set_cons_succ]
              refine wpAnyH_take (i := 12) (oi := { dst := some 4, op := Op.assign (Operand.tmp 35), type := 102, pos := "ref.go:311", after := #[{ on := 11, ground := Ground.data }, { on := 11, ground := Ground.chain }, { on := 0, ground := Ground.phase }, { on := 1, ground := Ground.phase }, { on := 2, ground := Ground.phase }, { on := 3, ground := Ground.phase }, { on := 4, ground := Ground.phase }, { on := 5, ground := Ground.phase }, { on := 6, ground := Ground.phase }, { on := 7, ground := Ground.phase }, { on := 8, ground := Ground.phase }, { on := 9, ground := Ground.phase }, { on := 10, ground := Ground.phase }, { on := 11, ground := Ground.phase }], guard := none }) (v := ?_) rfl (by kernel_rfl) (by kernel_rfl) (by kernel_rfl) (fun _ _ _ h => h) (Or.inl ⟨by rfl, ?_⟩) (by assumption) ?_
              rotate_left
              · (intro wq hSw; (try dsimp only at hSw); have zz := hSw; clear zz; clear hSw; go_simp; first | done | with_reducible rfl)
              try simp only [Act.put, List.setIfInBounds_toArray, List.set_cons_zero, List.set_cons_succ]
              refine wpAnyH_done (by kernel_rfl) ?_ _
              have OZ : Hid (v9.ownsRow wr.heap.size 9 1 av11 (mg kOr L [k]).length ((mg kOr L [k]).map Value.string)) := Lib.hid (by
                have e : 0 + j + 1 + (L.length - j) = (mg kOr L [k]).length := by rw [← EQ.out]; simp; omega
                have q := OA
                rw [e] at q
                rw [← EQ.out] at q ⊢
                simpa using q)
              have BZ := Lib.hid hHeld
              have HZ : Hid ((mg kOr L [k]).length ≠ 0) := Lib.hid (by rw [← EQ.out]; simp)
              clear hHeld OA
              obtain ⟨za, zc, rfl⟩ := i_own_slice OZ.out
              go_wp2
              exact bodyPost_ret (v := .slice za (mg kOr L [k]).length zc) (by simp [results, Try.results190, go_sem, *]) rfl ⟨_, rfl, Lib.hid ⟨Rs.of_own OZ.out, fun c hc => by injection hc with h1 h2 h3; exact absurd h2 HZ.out⟩, BZ.out⟩
            exact AllReadyH.nil
          refine AllReadyH.cons (o := { dst := some 30, op := Op.buildSlice 102 1 #[(0, Operand.tmp 29)], type := 102, pos := "ref.go:311", after := #[{ on := 5, ground := Ground.data }], guard := none }) rfl (fun K hK => ?_) ?_
          · go_simp
            have nb := i_below_new v0 (.cells #[.string k] 9)
            have NW := cell_one_new v0 (.string k) 9
            have NL : v0.heap.size < (v0.alloc (.cells #[.string k] 9)).heap.size := by simp
            have hS := hHeld.trans (nb.mono hHeld.size)
            refine hK.out _ _ hS (fun hHeld => ?_)
            clear hK K hHeld
            clear nb
            generalize v0.alloc (.cells #[.string k] 9) = v10 at *
            have hHeld := hS
            clear hS
            try simp only [Act.put, List.setIfInBounds_toArray, List.set_cons_zero, List.set_cons_succ]
            refine wpAnyH_ready (rs := [0]) (by kernel_rfl) (by simp) ?_
            refine AllReadyH.cons (o := { dst := some 24, op := Op.buildSlice 102 0 #[], type := 102, pos := "ref.go:311", after := #[], guard := none }) rfl (fun K hK => ?_) AllReadyH.nil
            go_simp
            have NE : (Value.slice (some ⟨v10.heap.size, 0, none⟩) 0 0).ownBlock ≠ some v0.heap.size := fun e => by have := NL; simp [Value.ownBlock] at e; omega
            have nb := i_below_new v10 (.cells #[] 9)
            have NW := cell_keep1 NW NL nb
            have NL := Nat.lt_of_lt_of_le NL nb.size
            have OA : (v10.alloc (.cells #[] 9)).ownsRow wr.heap.size 9 1 (.slice (some ⟨v10.heap.size, 0, none⟩) 0 0) 0 [] := World.ownsRow_lit v10 #[] 0 hHeld.size (by unfold maxLen; omega) (by simp)
            have hS := hHeld.trans (nb.mono hHeld.size)
            refine hK.out _ _ hS (fun hHeld => ?_)
            clear hK K hHeld
            clear nb
            generalize v10.alloc (.cells #[] 9) = v11 at *
            have hHeld := hS
            clear hS
            try simp only [Act.put, List.setIfInBounds_toArray, List.set_cons_zero, List.set_cons_succ]
            refine wpAnyH_ready (rs := [4]) (by kernel_rfl) (by simp) ?_
            refine AllReadyH.cons (o := { dst := some 28, op := Op.call { callee := Callee.builtin Builtin.append, args := #[Operand.tmp 24, Operand.tmp 27], argTypes := #[102, 102] }, type := 102, pos := "ref.go:311", after := #[{ on := 0, ground := Ground.data }, { on := 3, ground := Ground.data }], guard := none }) rfl (fun K hK => ?_) AllReadyH.nil
            refine step_append_str rfl (.tmp 24) (.tmp 27) rfl wr.heap.size (.slice (some ⟨v10.heap.size, 0, none⟩) 0 0) 0 [] (by simp [Act.eval, Act.put]) OA ⟨b, o, none⟩ j c1 ((L.take j).map Value.string) (by simp [Act.eval, Act.put]) (by simp; omega) (strs_news hb hc.out hHeld (i := 0) (fun q s h => by rw [Nat.zero_add]; exact tk_get h) (Or.inr rfl)) (strs_one _) (by omega) hHeld.size ?_
            intro av4 v12 OA2 grow2 hnil
            have hq : Below wr.heap.size v11 v12 := (Below.refl _ _).grown grow2 hHeld.size (fun g hg => (OA.lt g hg).1)
            have hS := hHeld.trans hq
            have NW := NWg NW NL NE grow2
            have NL := Nat.lt_of_lt_of_le NL grow2.size
            refine hK.out _ _ hS (fun hHeld => ?_)
            clear hK K hHeld
            have OA := OA2
            clear OA2 grow2 hq hnil
            have hHeld := hS
            clear hS
            try simp only [Act.put, List.setIfInBounds_toArray, List.set_cons_zero, List.set_cons_succ]
            refine wpAnyH_ready (rs := [7]) (by kernel_rfl) (by simp) ?_
            refine AllReadyH.cons (o := { dst := some 31, op := Op.call { callee := Callee.builtin Builtin.append, args := #[Operand.tmp 28, Operand.tmp 30], argTypes := #[102, 102] }, type := 102, pos := "ref.go:311", after := #[{ on := 4, ground := Ground.data }, { on := 6, ground := Ground.data }, { on := 4, ground := Ground.chain }], guard := none }) rfl (fun K hK => ?_) AllReadyH.nil
            refine step_append_str rfl (.tmp 28) (.tmp 30) rfl wr.heap.size av4 (0 + j) ([] ++ ((L.take j).map Value.string)) (by simp [Act.eval, Act.put]) OA ⟨v0.heap.size, 0, none⟩ 1 1 [.string k] (by simp [Act.eval, Act.put]) rfl NW (strs_one [k]) (by omega) hHeld.size ?_
            intro av7 v13 OA2 grow2 hnil
            have hq : Below wr.heap.size v12 v13 := (Below.refl _ _).grown grow2 hHeld.size (fun g hg => (OA.lt g hg).1)
            have hS := hHeld.trans hq
            refine hK.out _ _ hS (fun hHeld => ?_)
            clear hK K hHeld
            have OA := OA2
            clear OA2 grow2 hq hnil
            have hHeld := hS
            clear hS
            try simp only [Act.put, List.setIfInBounds_toArray, List.set_cons_zero, List.set_cons_succ]
            refine wpAnyH_ready (rs := [11]) (by kernel_rfl) (by simp) ?_
            refine AllReadyH.cons (o := { dst := some 35, op := Op.call { callee := Callee.builtin Builtin.append, args := #[Operand.tmp 31, Operand.tmp 34], argTypes := #[102, 102] }, type := 102, pos := "ref.go:311", after := #[{ on := 7, ground := Ground.data }, { on := 10, ground := Ground.data }, { on := 7, ground := Ground.chain }], guard := none }) rfl (fun K hK => ?_) AllReadyH.nil
            refine step_append_str rfl (.tmp 31) (.tmp 34) rfl wr.heap.size av7 ((0 + j) + 1) (([] ++ ((L.take j).map Value.string)) ++ [.string k]) (by simp [Act.eval, Act.put]) OA ⟨b, o2, none⟩ (L.length - j) c2 ((L.drop j).map Value.string) (by simp [Act.eval, Act.put]) (by simp) (strs_news hb hc.out hHeld (i := j) (fun q s h => by rwa [List.getElem?_drop] at h) (SR.out.imp (fun h => List.drop_eq_nil_of_le (by omega)) id)) (strs_one _) (by omega) hHeld.size ?_
            intro av11 v14 OA2 grow2 hnil
            have hq : Below wr.heap.size v13 v14 := (Below.refl _ _).grown grow2 hHeld.size (fun g hg => (OA.lt g hg).1)
            have hS := hHeld.trans hq
            refine hK.out _ _ hS (fun hHeld => ?_)
            clear hK K hHeld
            have OA := OA2
            clear OA2 grow2 hq
            have hHeld := hS
            clear hS
            try simp only [Act.put, List.setIfInBounds_toArray, List.set_cons_zero, List.set_cons_succ]
            refine wpAnyH_take (i := 12) (oi := { dst := some 4, op := Op.assign (Operand.tmp 35), type := 102, pos := "ref.go:311", after := #[{ on := 11, ground := Ground.data }, { on := 11, ground := Ground.chain }, { on := 0, ground := Ground.phase }, { on := 1, ground := Ground.phase }, { on := 2, ground := Ground.phase }, { on := 3, ground := Ground.phase }, { on := 4, ground := Ground.phase }, { on := 5, ground := Ground.phase }, { on := 6, ground := Ground.phase }, { on := 7, ground := Ground.phase }, { on := 8, ground := Ground.phase }, { on := 9, ground := Ground.phase }, { on := 10, ground := Ground.phase }, { on := 11, ground := Ground.phase }], guard := none }) (v := ?_) rfl (by kernel_rfl) (by kernel_rfl) (by kernel_rfl) (fun _ _ _ h => h) (Or.inl ⟨by rfl, ?_⟩) (by assumption) ?_
            rotate_left
            · (intro wq hSw; (try dsimp only at hSw); have zz := hSw; clear zz; clear hSw; go_simp; first | done | with_reducible rfl)
            try simp only [Act.put, List.setIfInBounds_toArray, List.set_cons_zero, List.set_cons_succ]
            refine wpAnyH_done (by kernel_rfl) ?_ _
            have OZ : Hid (v14.ownsRow wr.heap.size 9 1 av11 (mg kOr L [k]).length ((mg kOr L [k]).map Value.string)) := Lib.hid (by
              have e : 0 + j + 1 + (L.length - j) = (mg kOr L [k]).length := by rw [← EQ.out]; simp; omega
              have q := OA
              rw [e] at q
              rw [← EQ.out] at q ⊢
              simpa using q)
            have BZ := Lib.hid hHeld
            have HZ : Hid ((mg kOr L [k]).length ≠ 0) := Lib.hid (by rw [← EQ.out]; simp)
            clear hHeld OA
            obtain ⟨za, zc, rfl⟩ := i_own_slice OZ.out
            go_wp2
            exact bodyPost_ret (v := .slice za (mg kOr L [k]).length zc) (by simp [results, Try.results190, go_sem, *]) rfl ⟨_, rfl, Lib.hid ⟨Rs.of_own OZ.out, fun c hc => by injection hc with h1 h2 h3; exact absurd h2 HZ.out⟩, BZ.out⟩
          exact AllReadyH.nil
        · have E : Hid (∀ s ∈ L.take (j + 1), slt s k = true) := Lib.hid (by
            rw [List.take_add_one, FS.out]
            intro x hx
            rcases List.mem_append.1 hx with h | h
            · exact hE.out x h
            · simp at h; rw [h]; exact c)
          go_wp2_with fail
          go_roundg (L.length - j)
          case measure => exact KG.out
          case rel => exact ⟨j + 1, by go_num, ⟨by omega, by omega⟩, E, rfl⟩
      · have P2 : Hid (∀ s, L[j]? = some s → slt s k = false) := Lib.hid (fun t ht => by rw [List.getElem?_eq_none (by omega)] at ht; cases ht)
        have EQ := Lib.hid (put_asc HA.out HK.out hE.out P2.out)
        go_upto_region 6 with fail
        obtain ⟨c1, hs1⟩ := sl_head b o L.length cp j (by omega)
        obtain ⟨o2, c2, hs2, sr⟩ := sl_rest b o L.length cp j (by omega) hcp
        have SR := Lib.hid sr
        clear sr
        refine wp_region_held_drew (S := (fun w' => Below wr.heap.size wr w')) (by kernel_rfl) (to_drewI (Below.refl _ _)) (fun hHeld => ?_)
        generalize wr.drew = v0 at *
        refine wpAnyH_take (i := 1) (oi := { dst := some 25, op := Op.move (Operand.tmp 0), type := 102, pos := "ref.go:311", after := #[], guard := none }) (v := ?_) rfl (by kernel_rfl) (by kernel_rfl) (by kernel_rfl) (fun _ _ _ h => h) (Or.inl ⟨by rfl, ?_⟩) (by assumption) ?_
        rotate_left
        · (intro wq hSw; (try dsimp only at hSw); have zz := hSw; clear zz; clear hSw; go_simp; first | done | with_reducible rfl)
        try simp only [Act.put, List.setIfInBounds_toArray, List.set_cons_zero, List.set_cons_succ]
        refine wpAnyH_take (i := 2) (oi := { dst := some 26, op := Op.move (Operand.tmp 5), type := 3, pos := "ref.go:311", after := #[], guard := none }) (v := ?_) rfl (by kernel_rfl) (by kernel_rfl) (by kernel_rfl) (fun _ _ _ h => h) (Or.inl ⟨by rfl, ?_⟩) (by assumption) ?_
        rotate_left
        · (intro wq hSw; (try dsimp only at hSw); have zz := hSw; clear zz; clear hSw; go_simp; first | done | with_reducible rfl)
        try simp only [Act.put, List.setIfInBounds_toArray, List.set_cons_zero, List.set_cons_succ]
        refine wpAnyH_take (i := 3) (oi := { dst := some 27, op := Op.slice 102 (Operand.tmp 25) none (some (Operand.tmp 26)) none, type := 102, pos := "ref.go:311", after := #[{ on := 1, ground := Ground.data }, { on := 2, ground := Ground.data }], guard := none }) (v := ?_) rfl (by kernel_rfl) (by kernel_rfl) (by kernel_rfl) (fun _ _ _ h => h) (Or.inl ⟨by rfl, ?_⟩) (by assumption) ?_
        rotate_left
        · (intro wq hSw; (try dsimp only at hSw); have zz := hSw; clear zz; clear hSw; go_simp; first | done | with_reducible rfl)
        try simp only [Act.put, List.setIfInBounds_toArray, List.set_cons_zero, List.set_cons_succ]
        refine wpAnyH_take (i := 5) (oi := { dst := some 29, op := Op.move (Operand.tmp 1), type := 9, pos := "ref.go:311", after := #[], guard := none }) (v := ?_) rfl (by kernel_rfl) (by kernel_rfl) (by kernel_rfl) (fun _ _ _ h => h) (Or.inl ⟨by rfl, ?_⟩) (by assumption) ?_
        rotate_left
        · (intro wq hSw; (try dsimp only at hSw); have zz := hSw; clear zz; clear hSw; go_simp; first | done | with_reducible rfl)
        try simp only [Act.put, List.setIfInBounds_toArray, List.set_cons_zero, List.set_cons_succ]
        refine wpAnyH_take (i := 8) (oi := { dst := some 32, op := Op.move (Operand.tmp 0), type := 102, pos := "ref.go:311", after := #[], guard := none }) (v := ?_) rfl (by kernel_rfl) (by kernel_rfl) (by kernel_rfl) (fun _ _ _ h => h) (Or.inl ⟨by rfl, ?_⟩) (by assumption) ?_
        rotate_left
        · (intro wq hSw; (try dsimp only at hSw); have zz := hSw; clear zz; clear hSw; go_simp; first | done | with_reducible rfl)
        try simp only [Act.put, List.setIfInBounds_toArray, List.set_cons_zero, List.set_cons_succ]
        refine wpAnyH_take (i := 9) (oi := { dst := some 33, op := Op.move (Operand.tmp 5), type := 3, pos := "ref.go:311", after := #[], guard := none }) (v := ?_) rfl (by kernel_rfl) (by kernel_rfl) (by kernel_rfl) (fun _ _ _ h => h) (Or.inl ⟨by rfl, ?_⟩) (by assumption) ?_
        rotate_left
        · (intro wq hSw; (try dsimp only at hSw); have zz := hSw; clear zz; clear hSw; go_simp; first | done | with_reducible rfl)
        try simp only [Act.put, List.setIfInBounds_toArray, List.set_cons_zero, List.set_cons_succ]
        refine wpAnyH_take (i := 10) (oi := { dst := some 34, op := Op.slice 102 (Operand.tmp 32) (some (Operand.tmp 33)) none none, type := 102, pos := "ref.go:311", after := #[{ on := 8, ground := Ground.data }, { on := 9, ground := Ground.data }], guard := none }) (v := ?_) rfl (by kernel_rfl) (by kernel_rfl) (by kernel_rfl) (fun _ _ _ h => h) (Or.inl ⟨by rfl, ?_⟩) (by assumption) ?_
        rotate_left
        · (intro wq hSw; (try dsimp only at hSw); have zz := hSw; clear zz; clear hSw; go_simp; first | done | with_reducible rfl)
        try simp only [Act.put, List.setIfInBounds_toArray, List.set_cons_zero, List.set_cons_succ]
        refine wpAnyH_ready (rs := [0, 6]) (by kernel_rfl) (by simp) ?_
        refine AllReadyH.cons (o := { dst := some 24, op := Op.buildSlice 102 0 #[], type := 102, pos := "ref.go:311", after := #[], guard := none }) rfl (fun K hK => ?_) ?_
        · go_simp
          have nb := i_below_new v0 (.cells #[] 9)
          have OA : (v0.alloc (.cells #[] 9)).ownsRow wr.heap.size 9 1 (.slice (some ⟨v0.heap.size, 0, none⟩) 0 0) 0 [] := World.ownsRow_lit v0 #[] 0 hHeld.size (by unfold maxLen; omega) (by simp)
          have hS := hHeld.trans (nb.mono hHeld.size)
          refine hK.out _ _ hS (fun hHeld => ?_)
          clear hK K hHeld
          clear nb
          generalize v0.alloc (.cells #[] 9) = v1 at *
          have hHeld := hS
          clear hS
          try simp only [Act.put, List.setIfInBounds_toArray, List.set_cons_zero, List.set_cons_succ]
          refine wpAnyH_ready (rs := [4, 6]) (by kernel_rfl) (by simp) ?_
          refine AllReadyH.cons (o := { dst := some 28, op := Op.call { callee := Callee.builtin Builtin.append, args := #[Operand.tmp 24, Operand.tmp 27], argTypes := #[102, 102] }, type := 102, pos := "ref.go:311", after := #[{ on := 0, ground := Ground.data }, { on := 3, ground := Ground.data }], guard := none }) rfl (fun K hK => ?_) ?_
          · refine step_append_str rfl (.tmp 24) (.tmp 27) rfl wr.heap.size (.slice (some ⟨v0.heap.size, 0, none⟩) 0 0) 0 [] (by simp [Act.eval, Act.put]) OA ⟨b, o, none⟩ j c1 ((L.take j).map Value.string) (by simp [Act.eval, Act.put]) (by simp; omega) (strs_news hb hc.out hHeld (i := 0) (fun q s h => by rw [Nat.zero_add]; exact tk_get h) (Or.inr rfl)) (strs_one _) (by omega) hHeld.size ?_
            intro av4 v2 OA2 grow2 hnil
            have hq : Below wr.heap.size v1 v2 := (Below.refl _ _).grown grow2 hHeld.size (fun g hg => (OA.lt g hg).1)
            have hS := hHeld.trans hq
            refine hK.out _ _ hS (fun hHeld => ?_)
            clear hK K hHeld
            have OA := OA2
            clear OA2 grow2 hq hnil
            have hHeld := hS
            clear hS
            try simp only [Act.put, List.setIfInBounds_toArray, List.set_cons_zero, List.set_cons_succ]
            refine wpAnyH_ready (rs := [6]) (by kernel_rfl) (by simp) ?_
            refine AllReadyH.cons (o := { dst := some 30, op := Op.buildSlice 102 1 #[(0, Operand.tmp 29)], type := 102, pos := "ref.go:311", after := #[{ on := 5, ground := Ground.data }], guard := none }) rfl (fun K hK => ?_) AllReadyH.nil
            go_simp
            have NE : (av4 : Value).ownBlock ≠ some v2.heap.size := fun e => by have := (OA.lt _ e).2; omega
            have nb := i_below_new v2 (.cells #[.string k] 9)
            have OA := i_own_below OA nb
            have NW := cell_one_new v2 (.string k) 9
            have NL : v2.heap.size < (v2.alloc (.cells #[.string k] 9)).heap.size := by simp
            have hS := hHeld.trans (nb.mono hHeld.size)
            refine hK.out _ _ hS (fun hHeld => ?_)
            clear hK K hHeld
            clear nb
            generalize v2.alloc (.cells #[.string k] 9) = v3 at *
            have hHeld := hS
            clear hS
            try simp only [Act.put, List.setIfInBounds_toArray, List.set_cons_zero, List.set_cons_succ]
            refine wpAnyH_ready (rs := [7]) (by kernel_rfl) (by simp) ?_
            refine AllReadyH.cons (o := { dst := some 31, op := Op.call { callee := Callee.builtin Builtin.append, args := #[Operand.tmp 28, Operand.tmp 30], argTypes := #[102, 102] }, type := 102, pos := "ref.go:311", after := #[{ on := 4, ground := Ground.data }, { on := 6, ground := Ground.data }, { on := 4, ground := Ground.chain }], guard := none }) rfl (fun K hK => ?_) AllReadyH.nil
            refine step_append_str rfl (.tmp 28) (.tmp 30) rfl wr.heap.size av4 (0 + j) ([] ++ ((L.take j).map Value.string)) (by simp [Act.eval, Act.put]) OA ⟨v2.heap.size, 0, none⟩ 1 1 [.string k] (by simp [Act.eval, Act.put]) rfl NW (strs_one [k]) (by omega) hHeld.size ?_
            intro av7 v4 OA2 grow2 hnil
            have hq : Below wr.heap.size v3 v4 := (Below.refl _ _).grown grow2 hHeld.size (fun g hg => (OA.lt g hg).1)
            have hS := hHeld.trans hq
            refine hK.out _ _ hS (fun hHeld => ?_)
            clear hK K hHeld
            have OA := OA2
            clear OA2 grow2 hq hnil
            have hHeld := hS
            clear hS
            try simp only [Act.put, List.setIfInBounds_toArray, List.set_cons_zero, List.set_cons_succ]
            refine wpAnyH_ready (rs := [11]) (by kernel_rfl) (by simp) ?_
            refine AllReadyH.cons (o := { dst := some 35, op := Op.call { callee := Callee.builtin Builtin.append, args := #[Operand.tmp 31, Operand.tmp 34], argTypes := #[102, 102] }, type := 102, pos := "ref.go:311", after := #[{ on := 7, ground := Ground.data }, { on := 10, ground := Ground.data }, { on := 7, ground := Ground.chain }], guard := none }) rfl (fun K hK => ?_) AllReadyH.nil
            refine step_append_str rfl (.tmp 31) (.tmp 34) rfl wr.heap.size av7 ((0 + j) + 1) (([] ++ ((L.take j).map Value.string)) ++ [.string k]) (by simp [Act.eval, Act.put]) OA ⟨b, o2, none⟩ (L.length - j) c2 ((L.drop j).map Value.string) (by simp [Act.eval, Act.put]) (by simp) (strs_news hb hc.out hHeld (i := j) (fun q s h => by rwa [List.getElem?_drop] at h) (SR.out.imp (fun h => List.drop_eq_nil_of_le (by omega)) id)) (strs_one _) (by omega) hHeld.size ?_
            intro av11 v5 OA2 grow2 hnil
            have hq : Below wr.heap.size v4 v5 := (Below.refl _ _).grown grow2 hHeld.size (fun g hg => (OA.lt g hg).1)
            have hS := hHeld.trans hq
            refine hK.out _ _ hS (fun hHeld => ?_)
            clear hK K hHeld
            have OA := OA2
            clear OA2 grow2 hq
            have hHeld := hS
            clear hS
            try simp only [Act.put, List.setIfInBounds_toArray, List.set_cons_zero, List.set_cons_succ]
            refine wpAnyH_take (i := 12) (oi := { dst := some 4, op := Op.assign (Operand.tmp 35), type := 102, pos := "ref.go:311", after := #[{ on := 11, ground := Ground.data }, { on := 11, ground := Ground.chain }, { on := 0, ground := Ground.phase }, { on := 1, ground := Ground.phase }, { on := 2, ground := Ground.phase }, { on := 3, ground := Ground.phase }, { on := 4, ground := Ground.phase }, { on := 5, ground := Ground.phase }, { on := 6, ground := Ground.phase }, { on := 7, ground := Ground.phase }, { on := 8, ground := Ground.phase }, { on := 9, ground := Ground.phase }, { on := 10, ground := Ground.phase }, { on := 11, ground := Ground.phase }], guard := none }) (v := ?_) rfl (by kernel_rfl) (by kernel_rfl) (by kernel_rfl) (fun _ _ _ h => h) (Or.inl ⟨by rfl, ?_⟩) (by assumption) ?_
            rotate_left
            · (intro wq hSw; (try dsimp only at hSw); have zz := hSw; clear zz; clear hSw; go_simp; first | done | with_reducible rfl)
            try simp only [Act.put, List.setIfInBounds_toArray, List.set_cons_zero, List.set_cons_succ]
            refine wpAnyH_done (by kernel_rfl) ?_ _
            have OZ : Hid (v5.ownsRow wr.heap.size 9 1 av11 (mg kOr L [k]).length ((mg kOr L [k]).map Value.string)) := Lib.hid (by
              have e : 0 + j + 1 + (L.length - j) = (mg kOr L [k]).length := by rw [← EQ.out]; simp; omega
              have q := OA
              rw [e] at q
              rw [← EQ.out] at q ⊢
              simpa using q)
            have BZ := Lib.hid hHeld
            have HZ : Hid ((mg kOr L [k]).length ≠ 0) := Lib.hid (by rw [← EQ.out]; simp)
            clear hHeld OA
            obtain ⟨za, zc, rfl⟩ := i_own_slice OZ.out
            go_wp2
            exact bodyPost_ret (v := .slice za (mg kOr L [k]).length zc) (by simp [results, Try.results190, go_sem, *]) rfl ⟨_, rfl, Lib.hid ⟨Rs.of_own OZ.out, fun c hc => by injection hc with h1 h2 h3; exact absurd h2 HZ.out⟩, BZ.out⟩
          refine AllReadyH.cons (o := { dst := some 30, op := Op.buildSlice 102 1 #[(0, Operand.tmp 29)], type := 102, pos := "ref.go:311", after := #[{ on := 5, ground := Ground.data }], guard := none }) rfl (fun K hK => ?_) ?_
          · go_simp
            have NE : ((.slice (some ⟨v0.heap.size, 0, none⟩) 0 0) : Value).ownBlock ≠ some v1.heap.size := fun e => by have := (OA.lt _ e).2; omega
            have nb := i_below_new v1 (.cells #[.string k] 9)
            have OA := i_own_below OA nb
            have NW := cell_one_new v1 (.string k) 9
            have NL : v1.heap.size < (v1.alloc (.cells #[.string k] 9)).heap.size := by simp
            have hS := hHeld.trans (nb.mono hHeld.size)
            refine hK.out _ _ hS (fun hHeld => ?_)
            clear hK K hHeld
            clear nb
            generalize v1.alloc (.cells #[.string k] 9) = v6 at *
            have hHeld := hS
            clear hS
            try simp only [Act.put, List.setIfInBounds_toArray, List.set_cons_zero, List.set_cons_succ]
            refine wpAnyH_ready (rs := [4]) (by kernel_rfl) (by simp) ?_
            refine AllReadyH.cons (o := { dst := some 28, op := Op.call { callee := Callee.builtin Builtin.append, args := #[Operand.tmp 24, Operand.tmp 27], argTypes := #[102, 102] }, type := 102, pos := "ref.go:311", after := #[{ on := 0, ground := Ground.data }, { on := 3, ground := Ground.data }], guard := none }) rfl (fun K hK => ?_) AllReadyH.nil
            refine step_append_str rfl (.tmp 24) (.tmp 27) rfl wr.heap.size (.slice (some ⟨v0.heap.size, 0, none⟩) 0 0) 0 [] (by simp [Act.eval, Act.put]) OA ⟨b, o, none⟩ j c1 ((L.take j).map Value.string) (by simp [Act.eval, Act.put]) (by simp; omega) (strs_news hb hc.out hHeld (i := 0) (fun q s h => by rw [Nat.zero_add]; exact tk_get h) (Or.inr rfl)) (strs_one _) (by omega) hHeld.size ?_
            intro av4 v7 OA2 grow2 hnil
            have hq : Below wr.heap.size v6 v7 := (Below.refl _ _).grown grow2 hHeld.size (fun g hg => (OA.lt g hg).1)
            have hS := hHeld.trans hq
            have NW := NWg NW NL NE grow2
            have NL := Nat.lt_of_lt_of_le NL grow2.size
            refine hK.out _ _ hS (fun hHeld => ?_)
            clear hK K hHeld
            have OA := OA2
            clear OA2 grow2 hq hnil
            have hHeld := hS
            clear hS
            try simp only [Act.put, List.setIfInBounds_toArray, List.set_cons_zero, List.set_cons_succ]
            refine wpAnyH_ready (rs := [7]) (by kernel_rfl) (by simp) ?_
            refine AllReadyH.cons (o := { dst := some 31, op := Op.call { callee := Callee.builtin Builtin.append, args := #[Operand.tmp 28, Operand.tmp 30], argTypes := #[102, 102] }, type := 102, pos := "ref.go:311", after := #[{ on := 4, ground := Ground.data }, { on := 6, ground := Ground.data }, { on := 4, ground := Ground.chain }], guard := none }) rfl (fun K hK => ?_) AllReadyH.nil
            refine step_append_str rfl (.tmp 28) (.tmp 30) rfl wr.heap.size av4 (0 + j) ([] ++ ((L.take j).map Value.string)) (by simp [Act.eval, Act.put]) OA ⟨v1.heap.size, 0, none⟩ 1 1 [.string k] (by simp [Act.eval, Act.put]) rfl NW (strs_one [k]) (by omega) hHeld.size ?_
            intro av7 v8 OA2 grow2 hnil
            have hq : Below wr.heap.size v7 v8 := (Below.refl _ _).grown grow2 hHeld.size (fun g hg => (OA.lt g hg).1)
            have hS := hHeld.trans hq
            refine hK.out _ _ hS (fun hHeld => ?_)
            clear hK K hHeld
            have OA := OA2
            clear OA2 grow2 hq hnil
            have hHeld := hS
            clear hS
            try simp only [Act.put, List.setIfInBounds_toArray, List.set_cons_zero, List.set_cons_succ]
            refine wpAnyH_ready (rs := [11]) (by kernel_rfl) (by simp) ?_
            refine AllReadyH.cons (o := { dst := some 35, op := Op.call { callee := Callee.builtin Builtin.append, args := #[Operand.tmp 31, Operand.tmp 34], argTypes := #[102, 102] }, type := 102, pos := "ref.go:311", after := #[{ on := 7, ground := Ground.data }, { on := 10, ground := Ground.data }, { on := 7, ground := Ground.chain }], guard := none }) rfl (fun K hK => ?_) AllReadyH.nil
            refine step_append_str rfl (.tmp 31) (.tmp 34) rfl wr.heap.size av7 ((0 + j) + 1) (([] ++ ((L.take j).map Value.string)) ++ [.string k]) (by simp [Act.eval, Act.put]) OA ⟨b, o2, none⟩ (L.length - j) c2 ((L.drop j).map Value.string) (by simp [Act.eval, Act.put]) (by simp) (strs_news hb hc.out hHeld (i := j) (fun q s h => by rwa [List.getElem?_drop] at h) (SR.out.imp (fun h => List.drop_eq_nil_of_le (by omega)) id)) (strs_one _) (by omega) hHeld.size ?_
            intro av11 v9 OA2 grow2 hnil
            have hq : Below wr.heap.size v8 v9 := (Below.refl _ _).grown grow2 hHeld.size (fun g hg => (OA.lt g hg).1)
            have hS := hHeld.trans hq
            refine hK.out _ _ hS (fun hHeld => ?_)
            clear hK K hHeld
            have OA := OA2
            clear OA2 grow2 hq
            have hHeld := hS
            clear hS
            try simp only [Act.put, List.setIfInBounds_toArray, List.set_cons_zero, List.set_cons_succ]
            refine wpAnyH_take (i := 12) (oi := { dst := some 4, op := Op.assign (Operand.tmp 35), type := 102, pos := "ref.go:311", after := #[{ on := 11, ground := Ground.data }, { on := 11, ground := Ground.chain }, { on := 0, ground := Ground.phase }, { on := 1, ground := Ground.phase }, { on := 2, ground := Ground.phase }, { on := 3, ground := Ground.phase }, { on := 4, ground := Ground.phase }, { on := 5, ground := Ground.phase }, { on := 6, ground := Ground.phase }, { on := 7, ground := Ground.phase }, { on := 8, ground := Ground.phase }, { on := 9, ground := Ground.phase }, { on := 10, ground := Ground.phase }, { on := 11, ground := Ground.phase }], guard := none }) (v := ?_) rfl (by kernel_rfl) (by kernel_rfl) (by kernel_rfl) (fun _ _ _ h => h) (Or.inl ⟨by rfl, ?_⟩) (by assumption) ?_
            rotate_left
            · (intro wq hSw; (try dsimp only at hSw); have zz := hSw; clear zz; clear hSw; go_simp; first | done | with_reducible rfl)
            try simp only [Act.put, List.setIfInBounds_toArray, List.set_cons_zero, List.set_cons_succ]
            refine wpAnyH_done (by kernel_rfl) ?_ _
            have OZ : Hid (v9.ownsRow wr.heap.size 9 1 av11 (mg kOr L [k]).length ((mg kOr L [k]).map Value.string)) := Lib.hid (by
              have e : 0 + j + 1 + (L.length - j) = (mg kOr L [k]).length := by rw [← EQ.out]; simp; omega
              have q := OA
              rw [e] at q
              rw [← EQ.out] at q ⊢
              simpa using q)
            have BZ := Lib.hid hHeld
            have HZ : Hid ((mg kOr L [k]).length ≠ 0) := Lib.hid (by rw [← EQ.out]; simp)
            clear hHeld OA
            obtain ⟨za, zc, rfl⟩ := i_own_slice OZ.out
            go_wp2
            exact bodyPost_ret (v := .slice za (mg kOr L [k]).length zc) (by simp [results, Try.results190, go_sem, *]) rfl ⟨_, rfl, Lib.hid ⟨Rs.of_own OZ.out, fun c hc => by injection hc with h1 h2 h3; exact absurd h2 HZ.out⟩, BZ.out⟩
          exact AllReadyH.nil
        refine AllReadyH.cons (o := { dst := some 30, op := Op.buildSlice 102 1 #[(0, Operand.tmp 29)], type := 102, pos := "ref.go:311", after := #[{ on := 5, ground := Ground.data }], guard := none }) rfl (fun K hK => ?_) ?_
        · go_simp
          have nb := i_below_new v0 (.cells #[.string k] 9)
          have NW := cell_one_new v0 (.string k) 9
          have NL : v0.heap.size < (v0.alloc (.cells #[.string k] 9)).heap.size := by simp
          have hS := hHeld.trans (nb.mono hHeld.size)
          refine hK.out _ _ hS (fun hHeld => ?_)
          clear hK K hHeld
          clear nb
          generalize v0.alloc (.cells #[.string k] 9) = v10 at *
          have hHeld := hS
          clear hS
          try simp only [Act.put, List.setIfInBounds_toArray, List.set_cons_zero, List.set_cons_succ]
          refine wpAnyH_ready (rs := [0]) (by kernel_rfl) (by simp) ?_
          refine AllReadyH.cons (o := { dst := some 24, op := Op.buildSlice 102 0 #[], type := 102, pos := "ref.go:311", after := #[], guard := none }) rfl (fun K hK => ?_) AllReadyH.nil
          go_simp
          have NE : (Value.slice (some ⟨v10.heap.size, 0, none⟩) 0 0).ownBlock ≠ some v0.heap.size := fun e => by have := NL; simp [Value.ownBlock] at e; omega
          have nb := i_below_new v10 (.cells #[] 9)
          have NW := cell_keep1 NW NL nb
          have NL := Nat.lt_of_lt_of_le NL nb.size
          have OA : (v10.alloc (.cells #[] 9)).ownsRow wr.heap.size 9 1 (.slice (some ⟨v10.heap.size, 0, none⟩) 0 0) 0 [] := World.ownsRow_lit v10 #[] 0 hHeld.size (by unfold maxLen; omega) (by simp)
          have hS := hHeld.trans (nb.mono hHeld.size)
          refine hK.out _ _ hS (fun hHeld => ?_)
          clear hK K hHeld
          clear nb
          generalize v10.alloc (.cells #[] 9) = v11 at *
          have hHeld := hS
          clear hS
          try simp only [Act.put, List.setIfInBounds_toArray, List.set_cons_zero, List.set_cons_succ]
          refine wpAnyH_ready (rs := [4]) (by kernel_rfl) (by simp) ?_
          refine AllReadyH.cons (o := { dst := some 28, op := Op.call { callee := Callee.builtin Builtin.append, args := #[Operand.tmp 24, Operand.tmp 27], argTypes := #[102, 102] }, type := 102, pos := "ref.go:311", after := #[{ on := 0, ground := Ground.data }, { on := 3, ground := Ground.data }], guard := none }) rfl (fun K hK => ?_) AllReadyH.nil
          refine step_append_str rfl (.tmp 24) (.tmp 27) rfl wr.heap.size (.slice (some ⟨v10.heap.size, 0, none⟩) 0 0) 0 [] (by simp [Act.eval, Act.put]) OA ⟨b, o, none⟩ j c1 ((L.take j).map Value.string) (by simp [Act.eval, Act.put]) (by simp; omega) (strs_news hb hc.out hHeld (i := 0) (fun q s h => by rw [Nat.zero_add]; exact tk_get h) (Or.inr rfl)) (strs_one _) (by omega) hHeld.size ?_
          intro av4 v12 OA2 grow2 hnil
          have hq : Below wr.heap.size v11 v12 := (Below.refl _ _).grown grow2 hHeld.size (fun g hg => (OA.lt g hg).1)
          have hS := hHeld.trans hq
          have NW := NWg NW NL NE grow2
          have NL := Nat.lt_of_lt_of_le NL grow2.size
          refine hK.out _ _ hS (fun hHeld => ?_)
          clear hK K hHeld
          have OA := OA2
          clear OA2 grow2 hq hnil
          have hHeld := hS
          clear hS
          try simp only [Act.put, List.setIfInBounds_toArray, List.set_cons_zero, List.set_cons_succ]
          refine wpAnyH_ready (rs := [7]) (by kernel_rfl) (by simp) ?_
          refine AllReadyH.cons (o := { dst := some 31, op := Op.call { callee := Callee.builtin Builtin.append, args := #[Operand.tmp 28, Operand.tmp 30], argTypes := #[102, 102] }, type := 102, pos := "ref.go:311", after := #[{ on := 4, ground := Ground.data }, { on := 6, ground := Ground.data }, { on := 4, ground := Ground.chain }], guard := none }) rfl (fun K hK => ?_) AllReadyH.nil
          refine step_append_str rfl (.tmp 28) (.tmp 30) rfl wr.heap.size av4 (0 + j) ([] ++ ((L.take j).map Value.string)) (by simp [Act.eval, Act.put]) OA ⟨v0.heap.size, 0, none⟩ 1 1 [.string k] (by simp [Act.eval, Act.put]) rfl NW (strs_one [k]) (by omega) hHeld.size ?_
          intro av7 v13 OA2 grow2 hnil
          have hq : Below wr.heap.size v12 v13 := (Below.refl _ _).grown grow2 hHeld.size (fun g hg => (OA.lt g hg).1)
          have hS := hHeld.trans hq
          refine hK.out _ _ hS (fun hHeld => ?_)
          clear hK K hHeld
          have OA := OA2
          clear OA2 grow2 hq hnil
          have hHeld := hS
          clear hS
          try simp only [Act.put, List.setIfInBounds_toArray, List.set_cons_zero, List.set_cons_succ]
          refine wpAnyH_ready (rs := [11]) (by kernel_rfl) (by simp) ?_
          refine AllReadyH.cons (o := { dst := some 35, op := Op.call { callee := Callee.builtin Builtin.append, args := #[Operand.tmp 31, Operand.tmp 34], argTypes := #[102, 102] }, type := 102, pos := "ref.go:311", after := #[{ on := 7, ground := Ground.data }, { on := 10, ground := Ground.data }, { on := 7, ground := Ground.chain }], guard := none }) rfl (fun K hK => ?_) AllReadyH.nil
          refine step_append_str rfl (.tmp 31) (.tmp 34) rfl wr.heap.size av7 ((0 + j) + 1) (([] ++ ((L.take j).map Value.string)) ++ [.string k]) (by simp [Act.eval, Act.put]) OA ⟨b, o2, none⟩ (L.length - j) c2 ((L.drop j).map Value.string) (by simp [Act.eval, Act.put]) (by simp) (strs_news hb hc.out hHeld (i := j) (fun q s h => by rwa [List.getElem?_drop] at h) (SR.out.imp (fun h => List.drop_eq_nil_of_le (by omega)) id)) (strs_one _) (by omega) hHeld.size ?_
          intro av11 v14 OA2 grow2 hnil
          have hq : Below wr.heap.size v13 v14 := (Below.refl _ _).grown grow2 hHeld.size (fun g hg => (OA.lt g hg).1)
          have hS := hHeld.trans hq
          refine hK.out _ _ hS (fun hHeld => ?_)
          clear hK K hHeld
          have OA := OA2
          clear OA2 grow2 hq
          have hHeld := hS
          clear hS
          try simp only [Act.put, List.setIfInBounds_toArray, List.set_cons_zero, List.set_cons_succ]
          refine wpAnyH_take (i := 12) (oi := { dst := some 4, op := Op.assign (Operand.tmp 35), type := 102, pos := "ref.go:311", after := #[{ on := 11, ground := Ground.data }, { on := 11, ground := Ground.chain }, { on := 0, ground := Ground.phase }, { on := 1, ground := Ground.phase }, { on := 2, ground := Ground.phase }, { on := 3, ground := Ground.phase }, { on := 4, ground := Ground.phase }, { on := 5, ground := Ground.phase }, { on := 6, ground := Ground.phase }, { on := 7, ground := Ground.phase }, { on := 8, ground := Ground.phase }, { on := 9, ground := Ground.phase }, { on := 10, ground := Ground.phase }, { on := 11, ground := Ground.phase }], guard := none }) (v := ?_) rfl (by kernel_rfl) (by kernel_rfl) (by kernel_rfl) (fun _ _ _ h => h) (Or.inl ⟨by rfl, ?_⟩) (by assumption) ?_
          rotate_left
          · (intro wq hSw; (try dsimp only at hSw); have zz := hSw; clear zz; clear hSw; go_simp; first | done | with_reducible rfl)
          try simp only [Act.put, List.setIfInBounds_toArray, List.set_cons_zero, List.set_cons_succ]
          refine wpAnyH_done (by kernel_rfl) ?_ _
          have OZ : Hid (v14.ownsRow wr.heap.size 9 1 av11 (mg kOr L [k]).length ((mg kOr L [k]).map Value.string)) := Lib.hid (by
            have e : 0 + j + 1 + (L.length - j) = (mg kOr L [k]).length := by rw [← EQ.out]; simp; omega
            have q := OA
            rw [e] at q
            rw [← EQ.out] at q ⊢
            simpa using q)
          have BZ := Lib.hid hHeld
          have HZ : Hid ((mg kOr L [k]).length ≠ 0) := Lib.hid (by rw [← EQ.out]; simp)
          clear hHeld OA
          obtain ⟨za, zc, rfl⟩ := i_own_slice OZ.out
          go_wp2
          exact bodyPost_ret (v := .slice za (mg kOr L [k]).length zc) (by simp [results, Try.results190, go_sem, *]) rfl ⟨_, rfl, Lib.hid ⟨Rs.of_own OZ.out, fun c hc => by injection hc with h1 h2 h3; exact absurd h2 HZ.out⟩, BZ.out⟩
        exact AllReadyH.nil
end Go.Proofs.Ytcpeailodgoilaa
