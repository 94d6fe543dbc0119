/- Contract of slices.Insert of one run into a row of runs that the caller owns: at the end, in place, or in a new row. -/
import Derived.Test.YtaicdjhblbobbaaGreatPSearch
import Derived.Lib.Overlaps
import Derived.Lib.AppendZerosOnto
import Derived.Laws.Externs
import Derived.Laws.CopyOwn
import Derived.Deep.RegionLaw
import Derived.Test.YtaicdjhblbobbaaGreatPBits
import Derived.Maps.OwnOps
import Derived.Maps.OwnSet
import Derived.Maps.Own
namespace Go.Proofs.YtaicdjhblbobbaaGreat
open Go.RowKit Go.Lib

theorem flat_length (l : List Rn) : (flat l).length = l.length * 4 := by
  induction l with
  | nil => rfl
  | cons a t ih => simp [flat, Rn.cells] at ih ⊢; omega
theorem flat_take (l : List Rn) (i : Nat) : flat (l.take i) = (flat l).take (i * 4) := by
  induction l generalizing i with
  | nil => simp [flat]
  | cons a t ih =>
    cases i with
    | zero => simp [flat]
    | succ i =>
      have := ih i
      simp only [flat, List.take_succ_cons, List.flatMap_cons] at this ⊢
      rw [this, show (i + 1) * 4 = i * 4 + 4 by omega]
      simp [Rn.cells]
theorem flat_drop (l : List Rn) (i : Nat) : flat (l.drop i) = (flat l).drop (i * 4) := by
  induction l generalizing i with
  | nil => simp [flat]
  | cons a t ih =>
    cases i with
    | zero => simp [flat]
    | succ i =>
      have := ih i
      simp only [flat, List.drop_succ_cons, List.flatMap_cons] at this ⊢
      rw [this, show (i + 1) * 4 = i * 4 + 4 by omega]
      simp [Rn.cells]
theorem flat_one (l : List Rn) : ∀ v ∈ flat l, v.oneCell' = true := by
  intro v hv
  simp only [flat, List.mem_flatMap, Rn.cells] at hv
  obtain ⟨r, _, hr⟩ := hv
  simp at hr
  rcases hr with rfl | rfl | rfl | rfl <;> rfl

theorem run_copy_rowN {P : Program} (w : World) (dT sT ty elem : TypeId) (sz : Nat) (g o dLen dCap : Nat) (a : Addr) (sLen sCap : Nat) (cur : Array Value) (t : TypeId) (cs : List Value)
    (hu : P.underlying dT = some (.slice elem)) (hs : (P.info? elem).map (·.size) = some sz)
    (hg : w.heap[g]? = some (.cells cur t (0, 0))) (hn : cs.length = Nat.min sLen dLen * sz)
    (hsrc : ∀ j v, cs[j]? = some v → w.cell? (a.add j) = some v) (hfit : o + cs.length ≤ cur.size) (h1 : ∀ v ∈ cs, v.oneCell' = true) :
    (Builtin.copy_ #[dT, sT] ty #[.slice (some ⟨g, o, none⟩) dLen dCap, .slice (some a) sLen sCap]).run P w =
      .ok (goInt (Nat.min sLen dLen)) (w.setRow g (splice cur.toList o cs).toArray) := by
  have hst := run_storeCells_at P g o t cs 0 cur w hg (by simpa using hfit) h1
  cases hq : P.info? elem with
  | none => simp [hq] at hs
  | some i =>
    have hi : i.size = sz := by simpa [hq] using hs
    have hf := run_firstCells_some (P := P) w i.size (Nat.min sLen dLen) a sLen sCap cs (by rw [hi]; exact hn) hsrc
    simp only [Nat.add_zero] at hst
    simp [Builtin.copy_, run_underlying hu, Builtin.lenOf, sizeOf, typeInfo, hq, hf, hst, splice]

theorem Tryz.infoRun : (Tryz.prog.info? 129).map (fun i => (i.zero, i.size, i.bytes)) = some (some (.agg #[.int .i64 0, .int .i64 0, .int .i64 0, .int .i64 0]), 4, 32) := by kernel_rfl

theorem run_append_tx {P : Program} (w : World) (t tx ty e e' : TypeId) (i : TypeInfo) (ht : P.underlying t = some (.slice e)) (hx : P.underlying tx = some (.slice e')) (hi : P.info? e = some i) (a : Option Addr) (n c : Nat) (b : Value) :
    (Builtin.append_ #[t, tx] ty #[.slice a n c, b]).run P w = (Builtin.append_ #[t, t] ty #[.slice a n c, b]).run P w := by
  simp [Builtin.append_, run_underlying ht, run_underlying hx, sizeOf, typeInfo, hi]

/-- The runs lie in the row that the world owns. -/
theorem RowAt.owned {w : World} {base g n cap : Nat} {l : List Rn} (h : w.ownsRow base 129 4 (.slice (some ⟨g, 0, none⟩) n cap) n (flat l)) : RowAt w g l := by
  intro i r hr
  have hlen : (flat l).length = n * 4 := h.1
  rw [flat_length] at hlen
  have hi : i < l.length := (List.getElem?_eq_some_iff.1 hr).1
  have hcell : ∀ j, j < 4 → w.cell? ⟨g, i * 4 + j, none⟩ = (r.cells)[j]? := by
    intro j hj
    rw [h.cellAt (i * 4 + j) (by omega)]
    have h1 : (flat l)[i * 4 + j]? = ((flat l).drop (i * 4))[j]? := by rw [List.getElem?_drop]
    rw [h1, ← flat_drop, List.drop_eq_getElem_cons hi]
    have : l[i] = r := by rw [List.getElem?_eq_getElem hi] at hr; exact Option.some.inj hr
    rw [this]
    simp only [flat, List.flatMap_cons]
    rw [List.getElem?_append_left (by simpa [Rn.cells] using hj)]
  exact ⟨by simpa [Rn.cells] using hcell 0 (by omega), by simpa [Rn.cells] using hcell 1 (by omega), by simpa [Rn.cells] using hcell 2 (by omega), by simpa [Rn.cells] using hcell 3 (by omega)⟩

theorem cells_at_block {w : World} {vb : Nat} {cs : Array Value} {t : TypeId} (h : w.heap[vb]? = some (.cells cs t (0, 0))) : ∀ j u, cs.toList[j]? = some u → w.cell? ((⟨vb, 0, none⟩ : Addr).add j) = some u := by
  intro j u hu
  have hadd : (⟨vb, 0, none⟩ : Addr).add j = ⟨vb, j, none⟩ := by unfold Addr.add; split <;> simp_all
  rw [hadd]
  simp [World.cell?, h]
  simpa using hu


set_option maxHeartbeats 2000000 in
set_option maxRecDepth 100000 in
/-- At the end of the list. -/
theorem Insert_end (base : Nat) (v : Value) (l : List Rn) (r : Rn) (vb : Nat) (w : World) (hown : w.ownsRow base 129 4 v l.length (flat l)) (hbase : base ≤ w.heap.size) (hl : l.length < 1000000)
    (hvb : w.heap[vb]? = some (.cells #[.int .i64 r.p, .int .i64 r.k, .int .i64 r.f, .int .i64 r.t] 129 (0, 0))) :
    Calls Tryz.prog 192 #[v, .int .i64 l.length, .slice (some ⟨vb, 0, none⟩) 1 1] w fun e w' => ∃ v', e = .returned v' ∧ w'.ownsRow base 129 4 v' (l.length + 1) (flat (l ++ [r])) ∧ w.grownBy w' v.ownBlock := by
  obtain ⟨i0, hi, hz0, hz1, hz2⟩ := info_parts Tryz.infoRun
  have hr : ∀ ty, ∃ v' w', (Builtin.append_ #[91, 90] ty #[v, .slice (some ⟨vb, 0, none⟩) 1 1]).run Tryz.prog w = .ok v' w' ∧ w'.ownsRow base 129 4 v' (l.length + 1) (flat l ++ r.cells) ∧ w.grownBy w' v.ownBlock := fun ty => by
    obtain ⟨v', w', h1, h2, h3, _⟩ := run_append_own (P := Tryz.prog) w base 91 ty 129 i0 _ 4 32 Tryz.underlying91 hi hz0 hz1 hz2 rfl (by decide) v l.length (flat l) hown ⟨vb, 0, none⟩ 1 1 r.cells rfl (cells_at_block hvb) (by simp [Rn.cells, Value.oneCell']) (by unfold maxLen; omega) (by omega) hbase
    have hsl : ∃ a n c, v = .slice a n c := by
      rcases hown.2 with ⟨h, _⟩ | ⟨g, cap, _, h, _⟩
      · exact ⟨_, _, _, h⟩
      · exact ⟨_, _, _, h⟩
    obtain ⟨a, n, c, rfl⟩ := hsl
    exact ⟨v', w', by rw [run_append_tx w _ _ _ _ _ i0 Tryz.underlying91 Tryz.underlying90 hi]; exact h1, h2, h3⟩
  have hform : (v = .slice none 0 0 ∧ l.length = 0) ∨ ∃ g cap, v = .slice (some ⟨g, 0, none⟩) l.length cap ∧ l.length ≤ cap ∧ cap ≤ maxLen := by
    rcases hown.2 with ⟨h, h'⟩ | ⟨g, cap, cur, h, _, _, h2, h3, _⟩
    · exact Or.inl ⟨h, by omega⟩
    · exact Or.inr ⟨g, cap, h, by omega, h3⟩
  have HR : Hid _ := hr
  have HO : Hid _ := hown
  clear hr hown hvb
  have hcl : flat l ++ r.cells = flat (l ++ [r]) := by simp [flat]
  have HC : Hid _ := hcl
  clear hcl hi hz0 hz1 hz2
  rcases hform with ⟨rfl, hl0⟩ | ⟨g, cap, rfl, hcap, hm⟩
  · obtain rfl : l = [] := List.eq_nil_of_length_eq_zero hl0
    clear hl0
    go_enter Tryz.func192, Tryz.ntmps192
    obtain ⟨v', w', hrun, h2, h3⟩ := HR.out 91
    have X : Hid _ := And.intro h2 h3
    clear h2 h3
    go_wp2_with (at_builtin; refine Lib.wpList_append_run _ rfl _ _ _ _ rfl _ _ rfl rfl _ _ hrun ?_)
    go_ret
    exact ⟨_, rfl, X.out.1, X.out.2⟩
  · unfold maxLen at hm
    go_enter Tryz.func192, Tryz.ntmps192
    obtain ⟨v', w', hrun, h2, h3⟩ := HR.out 91
    have X : Hid _ := And.intro h2 h3
    clear h2 h3
    go_wp2_with (at_builtin; refine Lib.wpList_append_run _ rfl _ _ _ _ rfl _ _ rfl rfl _ _ hrun ?_)
    all_goals go_ret
    all_goals exact ⟨_, rfl, by rw [← HC.out]; exact X.out.1, X.out.2⟩

theorem splice_ins (C : List Value) (l : List Rn) (i : Nat) (r : Rn) (cap : Nat) (hC : C.length = cap * 4) (hi : i < l.length) (hroom : l.length + 1 ≤ cap) (htake : C.take (l.length * 4) = flat l) :
    (splice (splice C ((i + 1) * 4) (flat (l.drop i))) (i * 4) r.cells).toArray.toList.take ((l.length + 1) * 4) = flat (insAt l i r) := by
  have hfl : (flat (l.drop i)).length = (l.length - i) * 4 := by rw [flat_length, List.length_drop]
  have hrl : r.cells.length = 4 := rfl
  have e1 : C.take (i * 4) = flat (l.take i) := by
    rw [flat_take, ← htake, List.take_take, Nat.min_eq_left (by omega)]
  have e0 : flat (insAt l i r) = flat (l.take i) ++ (r.cells ++ flat (l.drop i)) := by simp [insAt, flat]
  have e2 : (C.take ((i + 1) * 4) ++ (flat (l.drop i) ++ C.drop ((i + 1) * 4 + (flat (l.drop i)).length))).take (i * 4) = flat (l.take i) := by
    rw [List.take_append_of_le_length (by rw [List.length_take]; omega), List.take_take, Nat.min_eq_left (by omega), e1]
  have e3 : (C.take ((i + 1) * 4) ++ (flat (l.drop i) ++ C.drop ((i + 1) * 4 + (flat (l.drop i)).length))).drop (i * 4 + 4) = flat (l.drop i) ++ C.drop ((i + 1) * 4 + (flat (l.drop i)).length) := by
    have : i * 4 + 4 = (C.take ((i + 1) * 4)).length := by rw [List.length_take]; omega
    rw [this, List.drop_left]
  have hft : (flat (l.take i)).length = i * 4 := by rw [flat_length, List.length_take]; omega
  rw [List.toList_toArray, splice, splice, hrl, e2, e3, e0]
  rw [← List.append_assoc r.cells, ← List.append_assoc (flat (l.take i))]
  rw [List.take_append_of_le_length (by simp only [List.length_append, hft, hrl, hfl]; omega)]
  exact List.take_of_length_le (by simp only [List.length_append, hft, hrl, hfl]; omega)

set_option maxHeartbeats 4000000 in
set_option maxRecDepth 100000 in
/-- In the midst of the list, there is room: in place. -/
theorem Insert_room (base g cap i : Nat) (l : List Rn) (r : Rn) (vb : Nat) (w : World) (hown : w.ownsRow base 129 4 (.slice (some ⟨g, 0, none⟩) l.length cap) l.length (flat l)) (hl : l.length < 1000000) (hi : i < l.length) (hroom : l.length + 1 ≤ cap)
    (hvb : w.heap[vb]? = some (.cells #[.int .i64 r.p, .int .i64 r.k, .int .i64 r.f, .int .i64 r.t] 129 (0, 0))) (hne : vb ≠ g) :
    Calls Tryz.prog 192 #[.slice (some ⟨g, 0, none⟩) l.length cap, .int .i64 i, .slice (some ⟨vb, 0, none⟩) 1 1] w fun e w' => ∃ v', e = .returned v' ∧ w'.ownsRow base 129 4 v' (l.length + 1) (flat (insAt l i r)) ∧ w.grownBy w' (some g) := by
  obtain ⟨i0, hi0, hz0, hz1, hz2⟩ := info_parts Tryz.infoRun
  have hsz : (Tryz.prog.info? 129).map (·.size) = some 4 := by rw [hi0]; simp [hz1]
  obtain ⟨h1, h2⟩ := hown
  rcases h2 with ⟨h2, _⟩ | ⟨g', cap', cur, h2, hbg, hcur, hcap, hmax, hsize, htake⟩
  · cases h2
  cases h2
  unfold maxLen at hmax
  have hov : ∀ lb cb, (callFunc 204 #[.slice (some ⟨vb, 0, none⟩) 1 1, .slice (some ⟨g, (i + 1) * 4, none⟩) lb cb]).run Tryz.prog w = .ok (.value (.bool false)) w := fun lb cb => by
    rw [run_callFunc_extern Tryz.func204 (by kernel_rfl) (by kernel_rfl) (by kernel_rfl) (e := Extern.SlicesOverlaps.overlaps #[90, 90] #[4]) (by kernel_rfl),
      Lib.run_overlaps_apart w 90 4 129 Tryz.underlying90 4 (fun w => by simp [sizeOf, typeInfo, hi0, hz1]) ⟨vb, 0, none⟩ ⟨g, (i + 1) * 4, none⟩ 1 1 lb cb hne 129 129 4 cur.size (by simp [World.shape?, hvb]) (by simp [World.shape?, hcur]) (by omega) (by simp [World.frozen?, hvb]) (by simp [World.frozen?, hvb])]
    rfl
  have hcs : ∀ j u, (flat l)[j]? = some u → cur.toList[j]? = some u := fun j u hj => by
    rw [← htake, List.getElem?_take] at hj
    split at hj
    · exact hj
    · cases hj
  have hcp1 : ∀ ty, (Builtin.copy_ #[91, 91] ty #[.slice (some ⟨g, (i + 1) * 4, none⟩) (l.length - i) (cap - (i + 1)), .slice (some ⟨g, i * 4, none⟩) (l.length + 1 - i) (cap - i)]).run Tryz.prog w.drew = .ok (goInt ((l.length - i : Nat) : Int)) (w.drew.setRow g (splice cur.toList ((i + 1) * 4) (flat (l.drop i))).toArray) := fun ty => by
    have hmin : Nat.min (l.length + 1 - i) (l.length - i) = l.length - i := by simp only [Nat.min_def]; split <;> omega
    have := run_copy_rowN (P := Tryz.prog) w.drew 91 91 ty 129 4 g ((i + 1) * 4) (l.length - i) (cap - (i + 1)) ⟨g, i * 4, none⟩ (l.length + 1 - i) (cap - i) cur 129 (flat (l.drop i)) Tryz.underlying91 hsz hcur
      (by rw [hmin, flat_length, List.length_drop])
      (fun j u hj => by
        rw [Addr.add_lit, flat_drop, List.getElem?_drop] at *
        have := hcs _ _ hj
        show w.cell? _ = _
        simp only [World.cell?, hcur]
        simpa using this)
      (by rw [flat_length, List.length_drop, hsize]; omega) (flat_one _)
    rw [hmin] at this
    exact this
  have hfl : (flat (l.drop i)).length = (l.length - i) * 4 := by rw [flat_length, List.length_drop]
  obtain ⟨C1, hC1⟩ : ∃ C1, C1 = splice cur.toList ((i + 1) * 4) (flat (l.drop i)) := ⟨_, rfl⟩
  have hcl : cur.toList.length = cap * 4 := by simpa using hsize
  have hC1l : C1.length = cap * 4 := by rw [hC1, length_splice _ _ _ (by rw [hfl, hcl]; omega)]; exact hcl
  rw [← hC1] at hcp1
  have hW1 : (w.drew.setRow g C1.toArray).heap[g]? = some (.cells C1.toArray 129 (0, 0)) := setRow_heap w.drew g cur _ _ _ hcur
  have hcp2 : ∀ ty, (Builtin.copy_ #[91, 90] ty #[.slice (some ⟨g, i * 4, none⟩) (l.length + 1 - i) (cap - i), .slice (some ⟨vb, 0, none⟩) 1 1]).run Tryz.prog (w.drew.setRow g C1.toArray) = .ok (goInt 1) ((w.drew.setRow g C1.toArray).setRow g (splice C1 (i * 4) r.cells).toArray) := fun ty => by
    have hmin : Nat.min 1 (l.length + 1 - i) = 1 := by simp only [Nat.min_def]; split <;> omega
    have := run_copy_rowN (P := Tryz.prog) (w.drew.setRow g C1.toArray) 91 90 ty 129 4 g (i * 4) (l.length + 1 - i) (cap - i) ⟨vb, 0, none⟩ 1 1 C1.toArray 129 r.cells Tryz.underlying91 hsz hW1
      (by rw [hmin]; rfl)
      (fun j u hj => by
        rw [cell_setRow_other _ _ _ _ (by simpa [Addr.add] using fun h => by split at h <;> exact hne h)]
        exact cells_at_block (w := w) hvb j u hj)
      (by rw [List.size_toArray, hC1l]; simp [Rn.cells]; omega) (by simp [Rn.cells, Value.oneCell'])
    rw [hmin] at this
    exact this
  have hfin : ((w.drew.setRow g C1.toArray).setRow g (splice C1 (i * 4) r.cells).toArray).ownsRow base 129 4 (.slice (some ⟨g, 0, none⟩) (l.length + 1) cap) (l.length + 1) (flat (insAt l i r)) := by
    refine ⟨by rw [flat_length]; simp [insAt]; omega, Or.inr ⟨g, cap, _, rfl, hbg, setRow_heap _ g _ _ _ _ hW1, hroom, by unfold maxLen; exact hmax, ?_, ?_⟩⟩
    · rw [List.size_toArray, length_splice _ _ _ (by simp [Rn.cells]; omega)]; exact hC1l
    · subst hC1
      exact splice_ins cur.toList l i r cap hcl (by omega) hroom htake
  have hgr : w.grownBy ((w.drew.setRow g C1.toArray).setRow g (splice C1 (i * 4) r.cells).toArray) (some g) := by
    refine ⟨rfl, rfl, rfl, by simp, fun k _ hk => ?_⟩
    have : k ≠ g := fun e => hk (by rw [e])
    rw [setRow_other _ _ _ _ this, setRow_other _ _ _ _ this]
    rfl
  have X : Hid _ := And.intro hfin hgr
  clear hfin hgr hcs hsize htake hcur hvb hC1 hC1l hW1 hfl h1 hcl
  obtain ⟨W1, hW1⟩ : ∃ W1, W1 = w.drew.setRow g C1.toArray := ⟨_, rfl⟩
  rw [← hW1] at hcp1 hcp2 X
  obtain ⟨W2, hW2⟩ : ∃ W2, W2 = W1.setRow g (splice C1 (i * 4) r.cells).toArray := ⟨_, rfl⟩
  rw [← hW2] at hcp2 X
  clear hW1 hW2
  have hin : i ≤ l.length := by omega
  have hb2 : ¬ (cap = i + 1) := by omega
  have hb4 : ¬ (cap = i) := by omega
  have hw1 : IntKind.i64.wrap ((i : Int) + 1) = (i : Int) + 1 := by rw [IntKind.wrap_i64]; omega
  have hb1 : (0 : Int) ≤ (i : Int) + 1 := by omega
  have htn : ((i : Int) + 1).toNat = i + 1 := by omega
  have hb3 : (i : Int) ≤ (l.length : Int) + 1 := by omega
  have hb5 : (i : Int) + 1 ≤ (l.length : Int) + 1 := by omega
  have hb6 : l.length + 1 - (i + 1) = l.length - i := by omega
  go_enter Tryz.func192, Tryz.ntmps192
  go_wp2_with (simp only [hov])
  go_region
  go_wp2
  go_ret
  exact ⟨_, rfl, X.out.1, X.out.2⟩

theorem splice_grow (Z : List Value) (l : List Rn) (i : Nat) (r : Rn) (hi : i < l.length) (hZ1 : Z.take (i * 4) = flat (l.take i)) :
    (splice (splice Z (i * 4) r.cells) ((i + 1) * 4) (flat (l.drop i))).toArray.toList.take ((l.length + 1) * 4) = flat (insAt l i r) := by
  have hfl : (flat (l.drop i)).length = (l.length - i) * 4 := by rw [flat_length, List.length_drop]
  have hrl : r.cells.length = 4 := rfl
  have e0 : flat (insAt l i r) = flat (l.take i) ++ (r.cells ++ flat (l.drop i)) := by simp [insAt, flat]
  have hft : (flat (l.take i)).length = i * 4 := by rw [flat_length, List.length_take]; omega
  rw [List.toList_toArray, splice, splice, hrl, hZ1, e0, hfl]
  have e2 : (flat (l.take i) ++ (r.cells ++ Z.drop (i * 4 + 4))).take ((i + 1) * 4) = flat (l.take i) ++ r.cells := by
    rw [← List.append_assoc]
    have : (i + 1) * 4 = (flat (l.take i) ++ r.cells).length := by rw [List.length_append, hft, hrl]; omega
    rw [this, List.take_left]
  rw [e2, List.append_assoc, ← List.append_assoc r.cells, ← List.append_assoc (flat (l.take i))]
  rw [List.take_append_of_le_length (by simp only [List.length_append, hft, hrl, hfl]; omega)]
  exact List.take_of_length_le (by simp only [List.length_append, hft, hrl, hfl]; omega)

set_option maxHeartbeats 4000000 in
set_option maxRecDepth 100000 in
/-- In the midst of the list, there is no room: a new row. -/
theorem Insert_grow (base g cap i : Nat) (l : List Rn) (r : Rn) (vb : Nat) (w : World) (hown : w.ownsRow base 129 4 (.slice (some ⟨g, 0, none⟩) l.length cap) l.length (flat l)) (hbase : base ≤ w.heap.size) (hl : l.length < 1000000) (hi : i < l.length) (hroom : cap < l.length + 1)
    (hvb : w.heap[vb]? = some (.cells #[.int .i64 r.p, .int .i64 r.k, .int .i64 r.f, .int .i64 r.t] 129 (0, 0))) :
    Calls Tryz.prog 192 #[.slice (some ⟨g, 0, none⟩) l.length cap, .int .i64 i, .slice (some ⟨vb, 0, none⟩) 1 1] w fun e w' => ∃ v', e = .returned v' ∧ w'.ownsRow base 129 4 v' (l.length + 1) (flat (insAt l i r)) ∧ w.grownBy w' (some g) := by
  obtain ⟨i0, hi0, hz0, hz1, hz2⟩ := info_parts Tryz.infoRun
  have hsz : (Tryz.prog.info? 129).map (·.size) = some 4 := by rw [hi0]; simp [hz1]
  have hrow := hown
  obtain ⟨h1, h2⟩ := hown
  rcases h2 with ⟨h2, _⟩ | ⟨g', cap', cur, h2, hbg, hcur, hcap, hmax, hsize, htake⟩
  · cases h2
  cases h2
  unfold maxLen at hmax
  have hcs : ∀ j u, (flat l)[j]? = some u → w.cell? ⟨g, j, none⟩ = some u := fun j u hj => by
    rw [← htake, List.getElem?_take] at hj
    split at hj
    · simp only [World.cell?, hcur]; simpa using hj
    · cases hj
  have hgw : g < w.heap.size := (Array.getElem?_eq_some_iff.1 hcur).1
  have hvw : vb < w.heap.size := (Array.getElem?_eq_some_iff.1 hvb).1
  have hold : (Builtin.firstCells i0.size i (.slice (some ⟨g, 0, none⟩) i cap)).run Tryz.prog w.drew = .ok (flat (l.take i)).toArray w.drew := by
    rw [hz1]
    exact run_firstCells_some w.drew 4 i ⟨g, 0, none⟩ i cap (flat (l.take i)) (by rw [flat_length, List.length_take]; omega) (fun j v hj => by
      rw [Addr.add_lit, flat_take, List.getElem?_take] at *
      split at hj
      · rw [Nat.zero_add]; exact hcs j v hj
      · cases hj)
  obtain ⟨k, hk⟩ : ∃ k, k = l.length + 1 - i := ⟨_, rfl⟩
  have hik : i + k = l.length + 1 := by omega
  obtain ⟨G, hG⟩ : ∃ G, G = grownCap w (l.length + 1) cap 129 := ⟨_, rfl⟩
  have hGn : l.length + 1 ≤ G := by rw [hG]; exact grownCap_ge w _ _ _
  have hGm : G ≤ maxLen := by rw [hG]; exact grownCap_le_maxLen w (l.length + 1) cap _ (by unfold maxLen; omega)
  obtain ⟨Z, hZ⟩ : ∃ Z : List Value, Z = flat (l.take i) ++ ((Builtin.zeroCells (Value.agg #[.int .i64 0, .int .i64 0, .int .i64 0, .int .i64 0]).cells k).toList ++ (Builtin.zeroCells (Value.agg #[.int .i64 0, .int .i64 0, .int .i64 0, .int .i64 0]).cells (G - (l.length + 1))).toList) := ⟨_, rfl⟩
  have hft : (flat (l.take i)).length = i * 4 := by rw [flat_length, List.length_take]; omega
  have hZl : Z.length = G * 4 := by
    rw [hZ]
    simp only [List.length_append, Array.length_toList, size_zeroCells, hft, Value.cells]
    simp
    omega
  have hZ1 : Z.take (i * 4) = flat (l.take i) := by rw [hZ, ← hft, List.take_left]
  have hrz : ∀ ty, (Builtin.append_ #[91, 3] ty #[.slice (some ⟨g, 0, none⟩) i cap, .int .i64 ((l.length : Int) + 1 - (i : Int))]).run Tryz.prog w =
      .ok (.slice (some ⟨w.heap.size, 0, none⟩) (l.length + 1) G) (w.drew.alloc (.cells Z.toArray 129)) := fun ty => by
    have h := Lib.run_append_grow_zeros w 91 3 ty 129 i0 _ .i64 .i64 Tryz.underlying91 Tryz.underlying3 hi0 hz0 (some ⟨g, 0, none⟩) i cap (flat (l.take i)) hold k (by omega) (by omega) (by omega) (by omega) (by rw [hz2]; omega) (by rw [hz2, hik]; exact growslice_fits hroom (by omega))
    rw [hik, ← hG] at h
    rw [show (l.length : Int) + 1 - (i : Int) = (k : Int) by omega, h]
    congr 3
    rw [hZ]
    apply Array.ext'
    simp
  obtain ⟨W1, hW1⟩ : ∃ W1, W1 = w.drew.alloc (.cells Z.toArray 129) := ⟨_, rfl⟩
  have hW1g : W1.heap[w.heap.size]? = some (.cells Z.toArray 129 (0, 0)) := by rw [hW1]; exact heap_alloc_new w.drew _
  have hW1o : ∀ b, b < w.heap.size → W1.heap[b]? = w.heap[b]? := fun b hb => by rw [hW1]; exact Below.heap_alloc w.drew _ b hb
  obtain ⟨C1, hC1⟩ : ∃ C1, C1 = splice Z (i * 4) r.cells := ⟨_, rfl⟩
  have hC1l : C1.length = G * 4 := by rw [hC1, length_splice _ _ _ (by rw [hZl]; simp [Rn.cells]; omega)]; exact hZl
  have hcp1 : ∀ (W : World), W.heap = W1.heap → ∀ ty, (Builtin.copy_ #[91, 90] ty #[.slice (some ⟨w.heap.size, i * 4, none⟩) (l.length + 1 - i) (G - i), .slice (some ⟨vb, 0, none⟩) 1 1]).run Tryz.prog W = .ok (goInt 1) (W.setRow w.heap.size C1.toArray) := fun W hW ty => by
    have hmin : Nat.min 1 (l.length + 1 - i) = 1 := by simp only [Nat.min_def]; split <;> omega
    have := run_copy_rowN (P := Tryz.prog) W 91 90 ty 129 4 w.heap.size (i * 4) (l.length + 1 - i) (G - i) ⟨vb, 0, none⟩ 1 1 Z.toArray 129 r.cells Tryz.underlying91 hsz (by rw [hW]; exact hW1g)
      (by rw [hmin]; rfl)
      (fun j u hj => by
        refine cells_at_block (w := W) (cs := #[.int .i64 r.p, .int .i64 r.k, .int .i64 r.f, .int .i64 r.t]) (t := 129) ?_ j u hj
        rw [hW, hW1o _ hvw]; exact hvb)
      (by rw [List.size_toArray, hZl]; simp [Rn.cells]; omega) (by simp [Rn.cells, Value.oneCell'])
    rw [hmin] at this
    rw [hC1]
    exact this
  obtain ⟨C2, hC2⟩ : ∃ C2, C2 = splice C1 ((i + 1) * 4) (flat (l.drop i)) := ⟨_, rfl⟩
  have hfl : (flat (l.drop i)).length = (l.length - i) * 4 := by rw [flat_length, List.length_drop]
  have hC2l : C2.length = G * 4 := by rw [hC2, length_splice _ _ _ (by rw [hC1l, hfl]; omega)]; exact hC1l
  have hcp2 : ∀ (W : World), W.heap = (W1.setRow w.heap.size C1.toArray).heap → ∀ ty, (Builtin.copy_ #[91, 91] ty #[.slice (some ⟨w.heap.size, (i + 1) * 4, none⟩) (l.length - i) (G - (i + 1)), .slice (some ⟨g, i * 4, none⟩) (l.length - i) (cap - i)]).run Tryz.prog W = .ok (goInt ((l.length - i : Nat) : Int)) (W.setRow w.heap.size C2.toArray) := fun W hW ty => by
    have hmin : Nat.min (l.length - i) (l.length - i) = l.length - i := by simp
    have := run_copy_rowN (P := Tryz.prog) W 91 91 ty 129 4 w.heap.size ((i + 1) * 4) (l.length - i) (G - (i + 1)) ⟨g, i * 4, none⟩ (l.length - i) (cap - i) C1.toArray 129 (flat (l.drop i)) Tryz.underlying91 hsz (by rw [hW]; exact setRow_heap _ _ _ _ _ _ hW1g)
      (by rw [hmin, hfl])
      (fun j u hj => by
        rw [Addr.add_lit, flat_drop, List.getElem?_drop] at *
        have hh : W.heap[g]? = w.heap[g]? := by rw [hW, setRow_other _ _ _ _ (by omega), hW1o _ hgw]
        rw [World.cell?_of_block (w := w) (a := ⟨g, i * 4 + j, none⟩) hh]
        exact hcs _ _ hj)
      (by rw [List.size_toArray, hC1l, hfl]; omega) (flat_one _)
    rw [hmin] at this
    rw [hC2]
    exact this
  have hfin : ∀ (W : World), W.heap = ((W1.setRow w.heap.size C1.toArray).setRow w.heap.size C2.toArray).heap → W.ownsRow base 129 4 (.slice (some ⟨w.heap.size, 0, none⟩) (l.length + 1) G) (l.length + 1) (flat (insAt l i r)) := fun W hW => by
    refine ⟨by rw [flat_length]; simp [insAt]; omega, Or.inr ⟨w.heap.size, G, C2.toArray, rfl, hbase, ?_, hGn, hGm, by rw [List.size_toArray]; exact hC2l, ?_⟩⟩
    · rw [hW]
      exact setRow_heap _ _ _ _ _ _ (setRow_heap _ _ _ _ _ _ hW1g)
    · rw [hC2, hC1]
      exact splice_grow Z l i r hi hZ1
  have hgr : ∀ (W : World), W.os = w.os → W.tape = w.tape → W.output = w.output → W.heap = ((W1.setRow w.heap.size C1.toArray).setRow w.heap.size C2.toArray).heap → w.grownBy W (some g) := fun W h1 h2 h3 hW => by
    refine ⟨h1, h2, h3, by rw [hW]; simp [hW1], fun k hk _ => ?_⟩
    rw [hW, setRow_other _ _ _ _ (by omega), setRow_other _ _ _ _ (by omega), hW1o _ hk]
  have hos : W1.os = w.os := by rw [hW1]; rfl
  have htp : W1.tape = w.tape := by rw [hW1]; rfl
  have hou : W1.output = w.output := by rw [hW1]; rfl
  rw [← hW1] at hrz
  have A1 : Hid _ := hcp1 W1 rfl
  have A2 : Hid _ := hcp2
  have A3 : Hid _ := hfin
  have A4 : Hid _ := hgr
  have A5 : Hid _ := And.intro hos (And.intro htp hou)
  have A6 : Hid _ := hrz
  unfold maxLen at hGm
  clear hcp1 hcp2 hfin hgr hos htp hou hrz hW1 hW1g hW1o hC1 hC2 hC1l hC2l hfl hZ hZl hZ1 hft hG hold hcs hcur hsize htake h1 hrow hik hk hvb hi0 hz0 hz1 hz2 hsz
  have hb1 : (0 : Int) ≤ (i : Int) + 1 := by omega
  have hin : i ≤ l.length := by omega
  have htn : ((i : Int) + 1).toNat = i + 1 := by omega
  have hb3 : (i : Int) ≤ (l.length : Int) := by omega
  have hb5 : (i : Int) + 1 ≤ (l.length : Int) + 1 := by omega
  have hb6 : l.length + 1 - (i + 1) = l.length - i := by omega
  have hGi : ¬ (G = i) := by omega
  have hGim : ¬ (G = i + 1) := by omega
  have hci : ¬ (cap = i) := by omega
  have hw1 : IntKind.i64.wrap ((i : Int) + 1) = (i : Int) + 1 := by rw [IntKind.wrap_i64]; omega
  go_enter Tryz.func192, Tryz.ntmps192
  have hA1 := A1.out
  go_wp2_with (at_builtin; refine Lib.wpList_append_run _ rfl _ _ 91 3 rfl _ _ rfl rfl _ _ (A6.out _) ?_)
  have hA2 := A2.out (W1.setRow w.heap.size C1.toArray).drew rfl
  go_region
  go_wp2
  go_ret
  exact ⟨_, rfl, A3.out _ rfl, A4.out _ A5.out.1 A5.out.2.1 A5.out.2.2 rfl⟩

/-- One run into a row that the caller owns, at whatever place. -/
theorem Insert_any (base : Nat) (v : Value) (l : List Rn) (i : Nat) (r : Rn) (vb : Nat) (w : World) (hown : w.ownsRow base 129 4 v l.length (flat l)) (hbase : base ≤ w.heap.size) (hl : l.length < 1000000) (hi : i ≤ l.length)
    (hvb : w.heap[vb]? = some (.cells #[.int .i64 r.p, .int .i64 r.k, .int .i64 r.f, .int .i64 r.t] 129 (0, 0))) (hne : v.ownBlock ≠ some vb) :
    Calls Tryz.prog 192 #[v, .int .i64 i, .slice (some ⟨vb, 0, none⟩) 1 1] w fun e w' => ∃ v', e = .returned v' ∧ w'.ownsRow base 129 4 v' (l.length + 1) (flat (insAt l i r)) ∧ w.grownBy w' v.ownBlock := by
  by_cases he : i = l.length
  · subst he
    refine (Insert_end base v l r vb w hown hbase hl hvb).mono ?_
    rintro e w' ⟨v', rfl, h1, h2⟩
    exact ⟨v', rfl, by simpa [insAt] using h1, h2⟩
  · rcases hown.2 with ⟨_, h⟩ | ⟨g, cap, cur, rfl, _⟩
    · omega
    · by_cases hroom : l.length + 1 ≤ cap
      · exact Insert_room base g cap i l r vb w hown hl (by omega) hroom hvb (fun e => hne (by rw [e]; rfl))
      · exact Insert_grow base g cap i l r vb w hown hbase hl (by omega) (by omega) hvb
end Go.Proofs.YtaicdjhblbobbaaGreat

/- Contract of List.insert: the run comes to the place that the search tells, in a row that the caller owns. -/
namespace Go.Proofs.YtaicdjhblbobbaaGreat
open Go.RowKit Go.Lib

theorem gb_trans {w w1 w2 : World} {row : Option Nat} (h : w.grownBy w1 row) (k : w1.grownBy w2 row) : w.grownBy w2 row :=
  ⟨k.os.trans h.os, k.tape.trans h.tape, k.output.trans h.output, Nat.le_trans h.size k.size, fun i hi hne => (k.block i (Nat.lt_of_lt_of_le hi h.size) hne).trans (h.block i hi hne)⟩
theorem gb_below {w w1 : World} (h : Below w.heap.size w w1) (row : Option Nat) : w.grownBy w1 row := ⟨h.os, h.tape, h.output, h.size, fun k hk _ => h.block k hk⟩
theorem below_gb {w w1 : World} {row : Option Nat} {B : Nat} (h : w.grownBy w1 row) (hB : B ≤ w.heap.size) (hr : ∀ k, row = some k → B ≤ k) : Below B w w1 :=
  ⟨h.os, h.tape, h.output, h.size, fun k hk => h.block k (by omega) (fun e => by have := hr k e.symm; omega)⟩

set_option maxHeartbeats 2000000 in
set_option maxRecDepth 100000 in
theorem insert_any (base : Nat) (v : Value) (l : List Rn) (i : Nat) (r : Rn) (w : World) (hown : w.ownsRow base 129 4 v l.length (flat l)) (hbase : base ≤ w.heap.size) (hl : l.length < 1000000) (hi : i ≤ l.length)
    (h1 : ∀ t x, l[t]? = some x → t < i → x.ord r < 0) (h2 : ∀ t x, l[t]? = some x → i ≤ t → 0 ≤ x.ord r) :
    Calls Tryz.prog 163 #[v, .agg #[.int .i64 r.p, .int .i64 r.k, .int .i64 r.f, .int .i64 r.t]] w fun e w' => ∃ v', e = .returned v' ∧ w'.ownsRow base 129 4 v' (l.length + 1) (flat (insAt l i r)) ∧ w.grownBy w' v.ownBlock := by
  have hS : ∀ W : World, Below w.heap.size w W → Calls Tryz.prog 190 #[v, .agg #[.int .i64 r.p, .int .i64 r.k, .int .i64 r.f, .int .i64 r.t], .func (.func 191) #[] #[]] W fun e w' => ∃ b, e = .returned (.tuple #[.int .i64 i, .bool b]) ∧ Below W.heap.size W w' := by
    intro W hW
    rcases hown.2 with ⟨rfl, h⟩ | ⟨g, cap, cur, rfl, _, hg, _⟩
    · obtain rfl : i = 0 := by omega
      exact search_nil r W
    · have hgw : g < w.heap.size := (Array.getElem?_eq_some_iff.1 hg).1
      exact search_any g cap l r W (by have := hW.size; omega) (by omega) ((RowAt.owned hown).below hW hgw) i hi h1 h2
  have hI : ∀ W : World, Below w.heap.size w W → ∀ W2 : World, W2 = W.alloc (.cells #[.int .i64 r.p, .int .i64 r.k, .int .i64 r.f, .int .i64 r.t] 129) → Calls Tryz.prog 192 #[v, .int .i64 i, .slice (some ⟨W.heap.size, 0, none⟩) 1 1] W2 fun e w' => ∃ v', e = .returned v' ∧ w'.ownsRow base 129 4 v' (l.length + 1) (flat (insAt l i r)) ∧ w.grownBy w' v.ownBlock := by
    intro W hW W2 hW2
    have hs := hW.size
    have ho : W.ownsRow base 129 4 v l.length (flat l) := hown.kept (gb_below hW none) (by cases hv : v.ownBlock <;> simp)
    refine (Insert_any base v l i r W.heap.size W2 (by rw [hW2]; exact ho.alloc _) (by rw [hW2]; simp; omega) hl hi (by rw [hW2]; exact heap_alloc_new W _) (fun e => by have := (ho.lt _ e).2; omega)).mono ?_
    rintro e w' ⟨v', rfl, h3, h4⟩
    refine ⟨v', rfl, h3, gb_trans (gb_trans (gb_below hW _) ?_) h4⟩
    rw [hW2]
    exact World.grownBy_alloc W _ _
  have HS : Hid _ := hS
  have HI : Hid _ := hI
  clear hS hI h1 h2 hown
  go_enter Tryz.func163, Tryz.ntmps163
  go_wp2_with (first
    | (go_at_call 190; refine (HS.out _ ((Below.refl _ _).alloc (Nat.le_refl _) _)).mono ?_; rintro e w' ⟨b, rfl, hb⟩; obtain ⟨hc, hf⟩ := bcell hb; have HB : Hid _ := hb; have hz := hb.size; simp at hz; clear hb)
    | (go_at_call 192; refine (HI.out w' (((Below.refl _ _).alloc (Nat.le_refl _) _).trans (HB.out.mono (by simp))) _ rfl).mono ?_; rintro e w'' ⟨v', rfl, h3, h4⟩))
  go_ret
  exact ⟨_, rfl, h3, h4⟩
end Go.Proofs.YtaicdjhblbobbaaGreat

/- Contracts of the table of processes and descriptors: check, Find, File, freeProc, give. -/
namespace Go.Proofs.YtaicdjhblbobbaaGreat
open Go.RowKit Go.Lib


theorem wpList_lookup_run {P : Program} {w w' : World} {ops : Array Oper} {rest : List Oper} {o : Oper} {a : Act} {Q : Exit → Act → World → Prop} (hg : o.guard = none) (m x : Operand) (t : TypeId) (c : Bool) (hop : o.op = Op.lookup t m x c)
    (vm vx v' : Value) (hm : a.eval m = vm) (hx : a.eval x = vx) (hr : (Instr.lookup t vm vx c).run P w = .ok v' w') (h : wpList P ops Q rest (a.put o.dst v') w') : wpList P ops Q (o :: rest) a w := by
  refine wpList_plain hg fun K' hK' => ?_
  unfold Oper.wp
  simp only [execOp, hop, hm, hx, Sem.run_bind, hr, Result.andThen_ok, Sem.run_pure]
  exact hK' _ _ h
/-- The table in block tb: which processes live; the map of the descriptors lies in block mb. -/
def Tab (w : World) (tb mb : Nat) (L : Nat → Bool) : Prop :=
  w.heap[tb]? = some (.cells #[.bool (L 0), .bool (L 1), .bool (L 2), .bool (L 3), .bool (L 4), .bool (L 5), .map (some mb)] 157 (0, 0))

theorem Tab.of_block {w w' : World} {tb mb : Nat} {L : Nat → Bool} (h : Tab w tb mb L) (he : w'.heap[tb]? = w.heap[tb]?) : Tab w' tb mb L := he.trans h
theorem Tab.lt {w : World} {tb mb : Nat} {L : Nat → Bool} (h : Tab w tb mb L) : tb < w.heap.size := (Array.getElem?_eq_some_iff.1 h).1
theorem Tab.cell {w : World} {tb mb : Nat} {L : Nat → Bool} (h : Tab w tb mb L) (j : Nat) (hj : j < 6) : w.cell? ⟨tb, j, none⟩ = some (.bool (L j)) := by
  unfold Tab at h
  simp only [World.cell?, h]
  match j, hj with
  | 0, _ | 1, _ | 2, _ | 3, _ | 4, _ | 5, _ => rfl
theorem Tab.mapCell {w : World} {tb mb : Nat} {L : Nat → Bool} (h : Tab w tb mb L) : w.cell? ⟨tb, 6, none⟩ = some (.map (some mb)) := by
  unfold Tab at h
  simp only [World.cell?, h]
  rfl
theorem Tab.frozen {w : World} {tb mb : Nat} {L : Nat → Bool} (h : Tab w tb mb L) (j : Nat) : w.frozen? ⟨tb, j, none⟩ = false := by
  unfold Tab at h
  simp [World.frozen?, h]

set_option maxHeartbeats 1000000 in
set_option maxRecDepth 100000 in
theorem check_live {w : World} {tb mb : Nat} {L : Nat → Bool} (h : Tab w tb mb L) (p : Int) (hl : liveB L p = true) :
    Calls Tryz.prog 78 #[.pointer (some ⟨tb, 0, none⟩), .int .i64 p] w fun e w' => e = .returned (.int .i64 0) ∧ w' = w := by
  simp [liveB] at hl
  obtain ⟨⟨h1, h2⟩, h3⟩ := hl
  have hc := h.cell p.toNat (by omega)
  rw [h3] at hc
  go_enter Tryz.func78, Tryz.ntmps78
  go_wp2
  go_ret
  exact ⟨rfl, rfl⟩
set_option maxHeartbeats 1000000 in
set_option maxRecDepth 100000 in
theorem check_dead {w : World} {tb mb : Nat} {L : Nat → Bool} (h : Tab w tb mb L) (p : Int) (hl : liveB L p = false) :
    Calls Tryz.prog 78 #[.pointer (some ⟨tb, 0, none⟩), .int .i64 p] w fun e w' => e = .returned (.int .i64 1) ∧ w' = w := by
  by_cases h1 : p < 0
  · go_enter Tryz.func78, Tryz.ntmps78
    go_wp2
    go_ret
    exact ⟨rfl, rfl⟩
  · by_cases h2 : 6 ≤ p
    · go_enter Tryz.func78, Tryz.ntmps78
      go_wp2
      go_ret
      exact ⟨rfl, rfl⟩
    · have hc := h.cell p.toNat (by omega)
      have h3 : L p.toNat = false := by
        simp [liveB] at hl
        exact hl (by omega) (by omega)
      rw [h3] at hc
      have h0 : 0 ≤ p := by omega
      have h6 : p < 6 := by omega
      clear h1 h2
      go_enter Tryz.func78, Tryz.ntmps78
      go_wp2
      go_ret
      exact ⟨rfl, rfl⟩

set_option maxHeartbeats 1000000 in
set_option maxRecDepth 100000 in
theorem find_dead {w : World} {tb mb : Nat} {L : Nat → Bool} (h : Tab w tb mb L) (p d : Int) (hl : liveB L p = false) :
    Calls Tryz.prog 80 #[.pointer (some ⟨tb, 0, none⟩), .int .i64 p, .int .i64 d] w fun e w' => e = .returned (.tuple #[.pointer none, .int .i64 1]) ∧ w' = w := by
  have H : Hid _ := h
  go_enter Tryz.func80, Tryz.ntmps80
  go_wp2_with (go_at_call 78; refine (check_dead H.out p hl).mono ?_; rintro e w' ⟨rfl, rfl⟩)
  go_ret2
  exact ⟨rfl, rfl⟩
set_option maxHeartbeats 1000000 in
set_option maxRecDepth 100000 in
theorem find_live {w : World} {tb mb : Nat} {L : Nat → Bool} {F : Int → Int → Option Nat} (h : Tab w tb mb L) (hm : MapAt w mb F) (p d : Int) (hl : liveB L p = true) :
    Calls Tryz.prog 80 #[.pointer (some ⟨tb, 0, none⟩), .int .i64 p, .int .i64 d] w fun e w' => e = .returned (.tuple #[ptrV (F p d), .int .i64 (if (F p d).isSome then 0 else 5)]) ∧ w' = w := by
  have H : Hid _ := h
  have hlk := hm.lookup w rfl p d
  have hmc := h.mapCell
  clear h
  cases hf : F p d with
  | none =>
    rw [hf] at hlk
    simp only [ptrV, Option.map_none, Option.isSome_none] at hlk
    have HL : Hid _ := hlk
    clear hlk hm
    go_enter Tryz.func80, Tryz.ntmps80
    go_wp2_with (first
      | (go_at_call 78; refine (check_live H.out p hl).mono ?_; rintro e w' ⟨rfl, rfl⟩)
      | (at_lookup; refine wpList_lookup_run rfl _ _ _ _ rfl _ _ _ rfl rfl (HL.out) ?_))
    go_ret2
    exact ⟨rfl, rfl⟩
  | some b =>
    rw [hf] at hlk
    simp only [ptrV, Option.map_some, Option.isSome_some] at hlk
    have HL : Hid _ := hlk
    clear hlk hm
    go_enter Tryz.func80, Tryz.ntmps80
    go_wp2_with (first
      | (go_at_call 78; refine (check_live H.out p hl).mono ?_; rintro e w' ⟨rfl, rfl⟩)
      | (at_lookup; refine wpList_lookup_run rfl _ _ _ _ rfl _ _ _ rfl rfl (HL.out) ?_))
    go_ret2
    exact ⟨rfl, rfl⟩

/-- The opening in block b is of file f. -/
def OpenAt (w : World) (b : Nat) (f : Int) : Prop := w.heap[b]? = some (.cells #[.int .i64 f] 143 (0, 0))

theorem File_any {w : World} {b : Nat} {f : Int} (ho : OpenAt w b f) :
    Calls Tryz.prog 82 #[.pointer (some ⟨b, 0, none⟩)] w fun e w' => e = .returned (.int .i64 f) ∧ w' = w := by
  have hc : w.cell? ⟨b, 0, none⟩ = some (.int .i64 f) := by unfold OpenAt at ho; simp [World.cell?, ho]
  clear ho
  go_enter Tryz.func82, Tryz.ntmps82
  go_wp2
  go_ret
  exact ⟨rfl, rfl⟩

theorem run_index_live (a0 a1 a2 a3 a4 a5 : Value) (W : World) :
    (Instr.index 155 (.agg #[a0, a1, a2, a3, a4, a5]) (.int .i64 0)).run Tryz.prog W = .ok a0 W ∧ (Instr.index 155 (.agg #[a0, a1, a2, a3, a4, a5]) (.int .i64 1)).run Tryz.prog W = .ok a1 W ∧
    (Instr.index 155 (.agg #[a0, a1, a2, a3, a4, a5]) (.int .i64 2)).run Tryz.prog W = .ok a2 W ∧ (Instr.index 155 (.agg #[a0, a1, a2, a3, a4, a5]) (.int .i64 3)).run Tryz.prog W = .ok a3 W ∧
    (Instr.index 155 (.agg #[a0, a1, a2, a3, a4, a5]) (.int .i64 4)).run Tryz.prog W = .ok a4 W ∧ (Instr.index 155 (.agg #[a0, a1, a2, a3, a4, a5]) (.int .i64 5)).run Tryz.prog W = .ok a5 W := by
  refine ⟨?_, ?_, ?_, ?_, ?_, ?_⟩ <;> simp [Instr.index, asIntOf, run_underlying Tryz.underlying155, part, Tryz.sizeOf4, Tryz.isAgg4]

set_option maxHeartbeats 1000000 in
set_option maxRecDepth 100000 in
theorem freeProc_some {w : World} {tb mb : Nat} {L : Nat → Bool} (h : Tab w tb mb L) (c : Nat) (hc : c < 6) (h1 : ∀ j, j < c → L j = true) (h2 : L c = false) :
    Calls Tryz.prog 90 #[.pointer (some ⟨tb, 0, none⟩)] w fun e w' => e = .returned (.tuple #[.int .i64 c, .bool true]) ∧ w' = w := by
  have c0 := h.cell 0 (by omega)
  have c1 := h.cell 1 (by omega)
  have c2 := h.cell 2 (by omega)
  have c3 := h.cell 3 (by omega)
  have c4 := h.cell 4 (by omega)
  have c5 := h.cell 5 (by omega)
  have H1 : Hid _ := h1
  have H2 : Hid _ := h2
  clear h h1 h2
  go_enter Tryz.func90, Tryz.ntmps90
  go_wp2
  go_loop [10] (fun i => ∃ k : Nat, i = .int .i64 k ∧ k ≤ c) (fun i => 6 - (intOf i).toNat)
  case atStart => exact ⟨0, rfl, Nat.zero_le _⟩
  case round =>
    obtain ⟨k, rfl, hk⟩ := hrel
    by_cases hlt : k < c
    · have hLk := H1.out k hlt
      obtain rfl | rfl | rfl | rfl | rfl : k = 0 ∨ k = 1 ∨ k = 2 ∨ k = 3 ∨ k = 4 := by omega
      all_goals
        obtain ⟨i0, i1, i2, i3, i4, i5⟩ := run_index_live (.bool (L 0)) (.bool (L 1)) (.bool (L 2)) (.bool (L 3)) (.bool (L 4)) (.bool (L 5)) w
        rw [hLk] at *
        go_wp2
        go_round
        case rel => exact ⟨_, rfl, hlt⟩
        case measure => simp [intOf]
    · obtain rfl : k = c := by omega
      have hLk := H2.out
      obtain rfl | rfl | rfl | rfl | rfl | rfl : k = 0 ∨ k = 1 ∨ k = 2 ∨ k = 3 ∨ k = 4 ∨ k = 5 := by omega
      all_goals
        obtain ⟨i0, i1, i2, i3, i4, i5⟩ := run_index_live (.bool (L 0)) (.bool (L 1)) (.bool (L 2)) (.bool (L 3)) (.bool (L 4)) (.bool (L 5)) w
        rw [hLk] at *
        go_wp2
        go_ret2
        exact ⟨rfl, rfl⟩
set_option maxHeartbeats 1000000 in
set_option maxRecDepth 100000 in
theorem freeProc_none {w : World} {tb mb : Nat} {L : Nat → Bool} (h : Tab w tb mb L) (h1 : ∀ j, j < 6 → L j = true) :
    Calls Tryz.prog 90 #[.pointer (some ⟨tb, 0, none⟩)] w fun e w' => e = .returned (.tuple #[.int .i64 0, .bool false]) ∧ w' = w := by
  have c0 := h.cell 0 (by omega)
  have c1 := h.cell 1 (by omega)
  have c2 := h.cell 2 (by omega)
  have c3 := h.cell 3 (by omega)
  have c4 := h.cell 4 (by omega)
  have c5 := h.cell 5 (by omega)
  have H1 : Hid _ := h1
  clear h h1
  go_enter Tryz.func90, Tryz.ntmps90
  go_wp2
  go_loop [10] (fun i => ∃ k : Nat, i = .int .i64 k ∧ k ≤ 6) (fun i => 6 - (intOf i).toNat)
  case atStart => exact ⟨0, rfl, Nat.zero_le _⟩
  case round =>
    obtain ⟨k, rfl, hk⟩ := hrel
    by_cases hlt : k < 6
    · have hLk := H1.out k hlt
      obtain rfl | rfl | rfl | rfl | rfl | rfl : k = 0 ∨ k = 1 ∨ k = 2 ∨ k = 3 ∨ k = 4 ∨ k = 5 := by omega
      all_goals
        obtain ⟨i0, i1, i2, i3, i4, i5⟩ := run_index_live (.bool (L 0)) (.bool (L 1)) (.bool (L 2)) (.bool (L 3)) (.bool (L 4)) (.bool (L 5)) w
        rw [hLk] at *
        go_wp2
        go_round
        case rel => exact ⟨_, rfl, hlt⟩
        case measure => simp [intOf]
    · obtain rfl : k = 6 := by omega
      go_wp2
      go_ret2
      exact ⟨rfl, rfl⟩
end Go.Proofs.YtaicdjhblbobbaaGreat

/- Contract of Table.give: the least free descriptor of a process is of the opening. -/
namespace Go.Proofs.YtaicdjhblbobbaaGreat
open Go.RowKit Go.Lib

theorem setBlock_same {w : World} {b : Nat} {o : Obj} (h : b < w.heap.size) : (ChangeMaps.setBlock w b o).heap[b]? = some o := by simp [ChangeMaps.setBlock, h]
theorem setBlock_other {w : World} {b k : Nat} {o : Obj} (h : k ≠ b) : (ChangeMaps.setBlock w b o).heap[k]? = w.heap[k]? := by
  simp only [ChangeMaps.setBlock, Array.getElem?_setIfInBounds]
  rw [if_neg (by omega)]
theorem gb_setBlock {w : World} {b : Nat} {o : Obj} : w.grownBy (ChangeMaps.setBlock w b o) (some b) :=
  ⟨rfl, rfl, rfl, by simp [ChangeMaps.setBlock], fun k _ hk => setBlock_other (fun e => hk (by rw [e]))⟩

set_option maxHeartbeats 4000000 in
set_option maxRecDepth 100000 in
theorem give_some {w : World} {tb mb : Nat} {L : Nat → Bool} {F : Int → Int → Option Nat} (h : Tab w tb mb L) (hm : MapAt w mb F) (p : Int) (ob d : Nat) (hd : d < 5) (h1 : ∀ j : Nat, j < d → (F p j).isSome = true) (h2 : F p d = none) :
    Calls Tryz.prog 79 #[.pointer (some ⟨tb, 0, none⟩), .int .i64 p, .pointer (some ⟨ob, 0, none⟩)] w fun e w' => e = .returned (.tuple #[.int .i64 d, .int .i64 0]) ∧ MapAt w' mb (updF F p d (some ob)) ∧ w.grownBy w' (some mb) := by
  have H := Hid.mk h
  have HM := Hid.mk hm
  have H1 := Hid.mk h1
  have H2 := Hid.mk h2
  have htl := h.lt
  have hml := hm.lt
  clear h hm h1 h2
  go_enter Tryz.func79, Tryz.ntmps79
  go_wp2
  go_loopw [12] (fun s wr => ∃ k : Nat, s = .int .i64 k ∧ k ≤ d ∧ Hid (Below w.heap.size w wr)) (fun s _ => 5 - (intOf s).toNat)
  case atStart => exact ⟨0, rfl, Nat.zero_le _, Below.refl _ _⟩
  case round =>
    obtain ⟨k, rfl, hk, HB⟩ := hrel
    have hmc : wr.cell? ⟨tb, 6, none⟩ = some (.map (some mb)) := (HB.out.cell (p := ⟨tb, 6, none⟩) htl).trans H.out.mapCell
    have hsz := HB.out.size
    have htl' : tb < wr.heap.size := by omega
    have hml' : mb < wr.heap.size := by omega
    have hbm : wr.heap[mb]? = w.heap[mb]? := HB.out.block mb hml
    have HBM := Hid.mk hbm
    clear hbm
    by_cases hlt : k < d
    · have hsome := H1.out k hlt
      obtain ⟨b, hb⟩ := Option.isSome_iff_exists.1 hsome
      have HL : Hid (∀ W : World, W.heap[mb]? = w.heap[mb]? → (Instr.lookup 154 (.map (some mb)) (.agg #[.int .i64 p, .int .i64 k]) true).run Tryz.prog W = .ok (.tuple #[.pointer (some ⟨b, 0, none⟩), .bool true]) W) := fun W hW => by
        have := HM.out.lookup W hW p k
        rw [hb] at this
        exact this
      have hlk := HL.out (wr.alloc (.cells #[.int .i64 p, .int .i64 k] 162)).drew (by show (wr.alloc _).heap[mb]? = _; rw [Below.heap_alloc _ _ _ hml']; exact HBM.out)
      clear hsome hb
      go_wp2
      go_region
      go_wp2
      go_roundw
      case rel => exact ⟨k + 1, by go_num, by omega, (HB.out.alloc (by omega) _).drew⟩
      case measure => simp [intOf]; omega
    · obtain rfl : k = d := by omega
      have HL : Hid (∀ W : World, W.heap[mb]? = w.heap[mb]? → (Instr.lookup 154 (.map (some mb)) (.agg #[.int .i64 p, .int .i64 k]) true).run Tryz.prog W = .ok (.tuple #[.pointer none, .bool false]) W) := fun W hW => by
        have := HM.out.lookup W hW p k
        rw [H2.out] at this
        exact this
      have hmW : (wr.alloc (.cells #[.int .i64 p, .int .i64 k] 162)).heap[mb]? = w.heap[mb]? := by rw [Below.heap_alloc _ _ _ hml']; exact HBM.out
      have hlk := HL.out (wr.alloc (.cells #[.int .i64 p, .int .i64 k] 162)).drew hmW
      obtain ⟨o', hu1, hu2⟩ := HM.out.update p k H2.out ob
      have hup := hu1 ((wr.alloc (.cells #[.int .i64 p, .int .i64 k] 162)).drew.drew) hmW
      have HU := Hid.mk hu2
      have HW := Hid.mk hmW
      clear hu1 hu2 hmW
      go_wp2
      go_region
      go_wp2
      go_region
      go_wp2
      go_ret2
      refine ⟨rfl, HU.out _ (setBlock_same (by show mb < (wr.alloc _).heap.size; simp; omega)), ?_⟩
      exact gb_trans (gb_below (HB.out.alloc (by omega) _).drew.drew _) gb_setBlock

set_option maxHeartbeats 4000000 in
set_option maxRecDepth 100000 in
theorem give_none {w : World} {tb mb : Nat} {L : Nat → Bool} {F : Int → Int → Option Nat} (h : Tab w tb mb L) (hm : MapAt w mb F) (p : Int) (ob : Nat) (h1 : ∀ j : Nat, j < 5 → (F p j).isSome = true) :
    Calls Tryz.prog 79 #[.pointer (some ⟨tb, 0, none⟩), .int .i64 p, .pointer (some ⟨ob, 0, none⟩)] w fun e w' => e = .returned (.tuple #[.int .i64 0, .int .i64 3]) ∧ Below w.heap.size w w' := by
  have H := Hid.mk h
  have HM := Hid.mk hm
  have H1 := Hid.mk h1
  have htl := h.lt
  have hml := hm.lt
  clear h hm h1
  go_enter Tryz.func79, Tryz.ntmps79
  go_wp2
  go_loopw [12] (fun s wr => ∃ k : Nat, s = .int .i64 k ∧ k ≤ 5 ∧ Hid (Below w.heap.size w wr)) (fun s _ => 5 - (intOf s).toNat)
  case atStart => exact ⟨0, rfl, Nat.zero_le _, Below.refl _ _⟩
  case round =>
    obtain ⟨k, rfl, hk, HB⟩ := hrel
    have hmc : wr.cell? ⟨tb, 6, none⟩ = some (.map (some mb)) := (HB.out.cell (p := ⟨tb, 6, none⟩) htl).trans H.out.mapCell
    have hsz := HB.out.size
    have htl' : tb < wr.heap.size := by omega
    have hml' : mb < wr.heap.size := by omega
    have HBM := Hid.mk (HB.out.block mb hml)
    by_cases hlt : k < 5
    · have hsome := H1.out k hlt
      obtain ⟨b, hb⟩ := Option.isSome_iff_exists.1 hsome
      have hlk := HM.out.lookup (wr.alloc (.cells #[.int .i64 p, .int .i64 k] 162)).drew (by show (wr.alloc _).heap[mb]? = _; rw [Below.heap_alloc _ _ _ hml']; exact HBM.out) p k
      rw [hb] at hlk
      simp only [ptrV, Option.map_some, Option.isSome_some] at hlk
      clear hsome hb
      go_wp2
      go_region
      go_wp2
      go_roundw
      case rel => exact ⟨k + 1, by go_num, by omega, (HB.out.alloc (by omega) _).drew⟩
      case measure => simp [intOf]; omega
    · obtain rfl : k = 5 := by omega
      go_wp2
      go_ret2
      exact ⟨rfl, HB.out⟩
end Go.Proofs.YtaicdjhblbobbaaGreat

/- Contracts of the table's New, Open and Fork. -/
namespace Go.Proofs.YtaicdjhblbobbaaGreat
open Go.RowKit Go.Lib

def F0 : Int → Int → Option Nat := fun _ _ => none

/-- Of what was there no block has turned but these. -/
structure Kp (bs : List Nat) (w w' : World) : Prop where
  os : w'.os = w.os
  tape : w'.tape = w.tape
  output : w'.output = w.output
  size : w.heap.size ≤ w'.heap.size
  block : ∀ k, k < w.heap.size → k ∉ bs → w'.heap[k]? = w.heap[k]?
theorem Kp.refl (bs : List Nat) (w : World) : Kp bs w w := ⟨rfl, rfl, rfl, Nat.le_refl _, fun _ _ _ => rfl⟩
theorem Kp.trans {bs : List Nat} {a b c : World} (h : Kp bs a b) (k : Kp bs b c) : Kp bs a c :=
  ⟨k.os.trans h.os, k.tape.trans h.tape, k.output.trans h.output, Nat.le_trans h.size k.size, fun i hi hn => (k.block i (Nat.lt_of_lt_of_le hi h.size) hn).trans (h.block i hi hn)⟩
theorem Kp.mono {bs cs : List Nat} {w w' : World} (h : Kp bs w w') (hs : ∀ x, x ∈ bs → x ∈ cs) : Kp cs w w' := ⟨h.os, h.tape, h.output, h.size, fun k hk hn => h.block k hk (fun hm => hn (hs k hm))⟩
theorem Kp.below {bs : List Nat} {w w' : World} (h : Below w.heap.size w w') : Kp bs w w' := ⟨h.os, h.tape, h.output, h.size, fun k hk _ => h.block k hk⟩
theorem Kp.gb {bs : List Nat} {w w' : World} {b : Nat} (h : w.grownBy w' (some b)) (hb : b ∈ bs) : Kp bs w w' := ⟨h.os, h.tape, h.output, h.size, fun k hk hn => h.block k hk (fun e => hn (by cases e; exact hb))⟩
theorem Kp.setCell {bs : List Nat} {w : World} {a : Addr} {v : Value} (h : a.block ∈ bs) : Kp bs w (w.setCell a v) := ⟨rfl, rfl, rfl, by simp, fun k _ hn => Below.heap_setCell _ _ _ _ (fun e => hn (by rw [e]; exact h))⟩

theorem Tab.set {w : World} {tb mb : Nat} {L : Nat → Bool} (h : Tab w tb mb L) (c : Nat) (hc : c < 6) (v : Bool) : Tab (w.setCell ⟨tb, c, none⟩ (.bool v)) tb mb (updL L c v) := by
  unfold Tab at *
  simp only [World.setCell, Array.getElem?_modify, h]
  obtain rfl | rfl | rfl | rfl | rfl | rfl : c = 0 ∨ c = 1 ∨ c = 2 ∨ c = 3 ∨ c = 4 ∨ c = 5 := by omega
  all_goals simp [updL]
theorem MapAt.congr {w : World} {mb : Nat} {F G : Int → Int → Option Nat} (h : MapAt w mb F) (he : ∀ p d, F p d = G p d) : MapAt w mb G := by
  obtain ⟨es, c, M, h1, h2, h3, h4⟩ := h
  exact ⟨es, c, M, h1, h2, h3, fun p d => (h4 p d).trans (he p d)⟩


set_option maxHeartbeats 1000000 in
set_option maxRecDepth 100000 in
theorem procsNew_any (w : World) :
    Calls Tryz.prog 59 #[] w fun e w' => ∃ tb mb, e = .returned (.pointer (some ⟨tb, 0, none⟩)) ∧ Tab w' tb mb L0 ∧ MapAt w' mb F0 ∧ Below w.heap.size w w' ∧ w.heap.size ≤ tb ∧ w.heap.size ≤ mb := by
  have hmk : (Instr.makeMap 154 none).run Tryz.prog w = .ok (.map (some w.heap.size)) (w.alloc (.map #[] 0)) := rfl
  go_enter Tryz.func59, Tryz.ntmps59
  go_wp2
  go_ret
  refine ⟨w.heap.size + 1, w.heap.size, rfl, ?_, ⟨#[], 0, [], ?_, .nil, List.Pairwise.nil, fun _ _ => rfl⟩, ((Below.refl _ _).alloc (Nat.le_refl _) _).alloc (by simp) _, by omega, by omega⟩
  · have := heap_alloc_new (w.alloc (.map #[] 0)) (.cells #[.bool true, .bool false, .bool false, .bool false, .bool false, .bool false, .map (some w.heap.size)] 157)
    simp only [World.size_alloc] at this
    exact this
  · rw [Below.heap_alloc _ _ _ (by simp)]
    exact heap_alloc_new w _

set_option maxHeartbeats 1000000 in
set_option maxRecDepth 100000 in
theorem procsFork_dead {w : World} {tb mb : Nat} {L : Nat → Bool} (h : Tab w tb mb L) (p : Int) (hl : liveB L p = false) :
    Calls Tryz.prog 61 #[.pointer (some ⟨tb, 0, none⟩), .int .i64 p] w fun e w' => e = .returned (.tuple #[.int .i64 0, .int .i64 1]) ∧ w' = w := by
  have H := Hid.mk h
  clear h
  go_enter Tryz.func61, Tryz.ntmps61
  go_wp2_with (go_at_call 78; refine (check_dead H.out p hl).mono ?_; rintro e w' ⟨rfl, rfl⟩)
  go_ret2
  exact ⟨rfl, rfl⟩
set_option maxHeartbeats 1000000 in
set_option maxRecDepth 100000 in
theorem procsFork_full {w : World} {tb mb : Nat} {L : Nat → Bool} (h : Tab w tb mb L) (p : Int) (hl : liveB L p = true) (hf : ∀ j, j < 6 → L j = true) :
    Calls Tryz.prog 61 #[.pointer (some ⟨tb, 0, none⟩), .int .i64 p] w fun e w' => e = .returned (.tuple #[.int .i64 0, .int .i64 3]) ∧ w' = w := by
  have H := Hid.mk h
  have HF := Hid.mk hf
  clear h hf
  go_enter Tryz.func61, Tryz.ntmps61
  go_wp2_with (first
    | (go_at_call 78; refine (check_live H.out p hl).mono ?_; rintro e w' ⟨rfl, rfl⟩)
    | (go_at_call 90; refine (freeProc_none H.out HF.out).mono ?_; rintro e w' ⟨rfl, rfl⟩))
  go_ret2
  exact ⟨rfl, rfl⟩

set_option maxHeartbeats 4000000 in
set_option maxRecDepth 100000 in
theorem procsFork_ok {w : World} {tb mb : Nat} {L : Nat → Bool} {F : Int → Int → Option Nat} (h : Tab w tb mb L) (hm : MapAt w mb F) (p : Int) (hl : liveB L p = true) (c : Nat) (hc : c < 6) (h1 : ∀ j, j < c → L j = true) (h2 : L c = false) (hF : ∀ e, F c e = none) :
    Calls Tryz.prog 61 #[.pointer (some ⟨tb, 0, none⟩), .int .i64 p] w fun e w' => e = .returned (.tuple #[.int .i64 c, .int .i64 0]) ∧ Tab w' tb mb (updL L c true) ∧ MapAt w' mb (copyF F p c 5) ∧ Kp [tb, mb] w w' := by
  have hpc : ¬ p = (c : Int) := fun e => by
    rw [e] at hl; simp [liveB] at hl; rw [h2] at hl; exact absurd hl.2 (by simp)
  have hne : mb ≠ tb := fun e => by
    obtain ⟨es, ck, M, hb, _⟩ := hm
    unfold Tab at h
    rw [e, h] at hb
    cases hb
  have H := Hid.mk h
  have HM := Hid.mk hm
  have H1 := Hid.mk h1
  have H2 := Hid.mk h2
  have HF := Hid.mk hF
  have HP := Hid.mk hpc
  have hfz := h.frozen c
  have hcc := h.cell c hc
  have htl := h.lt
  have hml := hm.lt
  clear h hm h1 h2 hF hpc
  go_enter Tryz.func61, Tryz.ntmps61
  go_wp2_with (first
    | (go_at_call 78; refine (check_live H.out p hl).mono ?_; rintro e w' ⟨rfl, hw⟩; have hw2 := hw.symm; clear hw; subst hw2)
    | (go_at_call 90; refine (freeProc_some H.out c hc H1.out H2.out).mono ?_; rintro e w' ⟨rfl, hw⟩; have hw2 := hw.symm; clear hw; subst hw2))
  go_loopw [30] (fun s wr => ∃ k : Nat, s = .int .i64 k ∧ k ≤ 5 ∧ Hid (Tab wr tb mb (updL L c true)) ∧ Hid (MapAt wr mb (copyF F p c k)) ∧ Hid (Kp [tb, mb] w wr)) (fun s _ => 5 - (intOf s).toNat)
  case atStart => exact ⟨0, rfl, Nat.zero_le _, H.out.set c hc true, (HM.out.of_block (Below.heap_setCell _ _ _ _ hne)).congr (fun q e => by unfold copyF; rw [if_neg (by omega)]), Kp.setCell (by simp)⟩
  case round =>
    obtain ⟨k, rfl, hk, HT, HMk, HK⟩ := hrel
    have hmc : wr.cell? ⟨tb, 6, none⟩ = some (.map (some mb)) := HT.out.mapCell
    by_cases hlt : k < 5
    · have hlk := HMk.out.lookup wr rfl p k
      have e1 : copyF F p c k p k = F p k := by unfold copyF; rw [if_neg (fun hh => HP.out hh.1)]
      rw [e1] at hlk
      cases hf : F p k with
      | none =>
        rw [hf] at hlk
        simp only [ptrV, Option.map_none, Option.isSome_none] at hlk
        have HN := Hid.mk hf
        clear hf e1
        go_wp2
        go_roundw
        case rel =>
          refine ⟨k + 1, by go_num, by omega, HT.out, HMk.out.congr (fun q e => ?_), HK.out⟩
          unfold copyF
          by_cases hq : q = c ∧ e = k
          · obtain ⟨rfl, rfl⟩ := hq
            rw [if_neg (by omega), if_pos (by omega), HN.out, HF.out]
          · by_cases hq2 : q = c ∧ 0 ≤ e ∧ e < k
            · rw [if_pos hq2, if_pos (by omega)]
            · rw [if_neg hq2, if_neg (by omega)]
        case measure => simp [intOf]; omega
      | some b =>
        rw [hf] at hlk
        simp only [ptrV, Option.map_some, Option.isSome_some] at hlk
        obtain ⟨o', hu1, hu2⟩ := HMk.out.update c k (by unfold copyF; rw [if_neg (by omega)]; exact HF.out _) b
        have hup := hu1 wr rfl
        have HU := Hid.mk hu2
        have HN := Hid.mk hf
        clear hu1 hu2 hf e1
        go_wp2
        go_roundw
        case rel =>
          have hmw := HMk.out.lt
          refine ⟨k + 1, by go_num, by omega, HT.out.of_block (setBlock_other hne.symm), (HU.out _ (setBlock_same hmw)).congr (fun q e => ?_), HK.out.trans (Kp.gb gb_setBlock (by simp))⟩
          unfold updF copyF
          by_cases hq : q = c ∧ e = k
          · obtain ⟨rfl, rfl⟩ := hq
            rw [if_pos ⟨rfl, rfl⟩, if_pos (by omega), HN.out]
          · rw [if_neg hq]
            by_cases hq2 : q = c ∧ 0 ≤ e ∧ e < k
            · rw [if_pos hq2, if_pos (by omega)]
            · rw [if_neg hq2, if_neg (by omega)]
        case measure => simp [intOf]; omega
    · obtain rfl : k = 5 := by omega
      go_wp2
      go_ret2
      exact ⟨rfl, HT.out, HMk.out, HK.out⟩

theorem OpenAt.of_block {w w' : World} {b : Nat} {f : Int} (h : OpenAt w b f) (he : w'.heap[b]? = w.heap[b]?) : OpenAt w' b f := he.trans h

set_option maxHeartbeats 1000000 in
set_option maxRecDepth 100000 in
theorem procsOpen_dead {w : World} {tb mb : Nat} {L : Nat → Bool} (h : Tab w tb mb L) (p f : Int) (hl : liveB L p = false) :
    Calls Tryz.prog 49 #[.pointer (some ⟨tb, 0, none⟩), .int .i64 p, .int .i64 f] w fun e w' => e = .returned (.tuple #[.int .i64 0, .int .i64 1]) ∧ w' = w := by
  have H := Hid.mk h
  clear h
  go_enter Tryz.func49, Tryz.ntmps49
  go_wp2_with (go_at_call 78; refine (check_dead H.out p hl).mono ?_; rintro e w' ⟨rfl, rfl⟩)
  go_ret2
  exact ⟨rfl, rfl⟩
set_option maxHeartbeats 1000000 in
set_option maxRecDepth 100000 in
theorem procsOpen_file {w : World} {tb mb : Nat} {L : Nat → Bool} (h : Tab w tb mb L) (p f : Int) (hl : liveB L p = true) (hf : f < 0 ∨ 3 ≤ f) :
    Calls Tryz.prog 49 #[.pointer (some ⟨tb, 0, none⟩), .int .i64 p, .int .i64 f] w fun e w' => e = .returned (.tuple #[.int .i64 0, .int .i64 4]) ∧ w' = w := by
  have H := Hid.mk h
  clear h
  rcases hf with hf | hf
  · go_enter Tryz.func49, Tryz.ntmps49
    go_wp2_with (go_at_call 78; refine (check_live H.out p hl).mono ?_; rintro e w' ⟨rfl, rfl⟩)
    go_ret2
    exact ⟨rfl, rfl⟩
  · have hf0 : 0 ≤ f := by omega
    go_enter Tryz.func49, Tryz.ntmps49
    go_wp2_with (go_at_call 78; refine (check_live H.out p hl).mono ?_; rintro e w' ⟨rfl, rfl⟩)
    go_ret2
    exact ⟨rfl, rfl⟩
set_option maxHeartbeats 1000000 in
set_option maxRecDepth 100000 in
theorem procsOpen_full {w : World} {tb mb : Nat} {L : Nat → Bool} {F : Int → Int → Option Nat} (h : Tab w tb mb L) (hm : MapAt w mb F) (p f : Int) (hl : liveB L p = true) (hf0 : 0 ≤ f) (hf1 : f < 3) (h1 : ∀ j : Nat, j < 5 → (F p j).isSome = true) :
    Calls Tryz.prog 49 #[.pointer (some ⟨tb, 0, none⟩), .int .i64 p, .int .i64 f] w fun e w' => e = .returned (.tuple #[.int .i64 0, .int .i64 3]) ∧ Below w.heap.size w w' := by
  have H := Hid.mk h
  have HG := Hid.mk (fun ob => give_none (w := w.alloc (.cells #[.int .i64 f] 143)) (h.of_block (Below.heap_alloc _ _ _ h.lt)) (hm.of_block (Below.heap_alloc _ _ _ hm.lt)) p ob h1)
  clear h hm h1
  go_enter Tryz.func49, Tryz.ntmps49
  go_wp2_with (first
    | (go_at_call 78; refine (check_live H.out p hl).mono ?_; rintro e w' ⟨rfl, hw⟩; have hw2 := hw.symm; clear hw; subst hw2)
    | (go_at_call 79; refine (HG.out _).mono ?_; rintro e w' ⟨rfl, hb⟩))
  go_ret2
  exact ⟨rfl, ((Below.refl _ _).alloc (Nat.le_refl _) _).trans (hb.mono (by simp))⟩
set_option maxHeartbeats 1000000 in
set_option maxRecDepth 100000 in
theorem procsOpen_ok {w : World} {tb mb : Nat} {L : Nat → Bool} {F : Int → Int → Option Nat} (h : Tab w tb mb L) (hm : MapAt w mb F) (p f : Int) (hl : liveB L p = true) (hf0 : 0 ≤ f) (hf1 : f < 3) (d : Nat) (hd : d < 5) (h1 : ∀ j : Nat, j < d → (F p j).isSome = true) (h2 : F p d = none) :
    Calls Tryz.prog 49 #[.pointer (some ⟨tb, 0, none⟩), .int .i64 p, .int .i64 f] w fun e w' => e = .returned (.tuple #[.int .i64 d, .int .i64 0]) ∧ OpenAt w' w.heap.size f ∧ MapAt w' mb (updF F p d (some w.heap.size)) ∧ Kp [mb] w w' := by
  have H := Hid.mk h
  have hml := hm.lt
  have HG := Hid.mk (fun ob => give_some (w := w.alloc (.cells #[.int .i64 f] 143)) (h.of_block (Below.heap_alloc _ _ _ h.lt)) (hm.of_block (Below.heap_alloc _ _ _ hm.lt)) p ob d hd h1 h2)
  clear h hm h1 h2
  go_enter Tryz.func49, Tryz.ntmps49
  go_wp2_with (first
    | (go_at_call 78; refine (check_live H.out p hl).mono ?_; rintro e w' ⟨rfl, hw⟩; have hw2 := hw.symm; clear hw; subst hw2)
    | (go_at_call 79; refine (HG.out _).mono ?_; rintro e w' ⟨rfl, hma, hgb⟩))
  go_ret2
  refine ⟨rfl, ?_, hma, (Kp.below ((Below.refl _ _).alloc (Nat.le_refl _) _)).trans (Kp.gb hgb (by simp))⟩
  show w'.heap[w.heap.size]? = _
  rw [hgb.block w.heap.size (by simp) (by simp; omega)]
  exact heap_alloc_new w _
end Go.Proofs.YtaicdjhblbobbaaGreat
