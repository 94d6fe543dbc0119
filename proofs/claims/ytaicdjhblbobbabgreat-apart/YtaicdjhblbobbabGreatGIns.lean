/- Contract of slices.Insert of one run into a row of runs that the caller owns: at the end, in place, or in a new row. -/
import Derived.Test.YtaicdjhblbobbabGreatGSearch
import Derived.Lib.Overlaps
import Derived.Lib.AppendZerosOnto
import Derived.Laws.Externs
import Derived.Laws.CopyOwn
import Derived.Deep.RegionLaw
namespace Go.Proofs.YtaicdjhblbobbabGreat
open Go.RowKit Go.Lib

theorem flat_length (l : List Rn) : (flat l).length = l.length * 4 := by
  induction l with
  | nil => rfl
  | cons a t ih => simp [flat, Rn.cells] at ih ⊢; omega
theorem flat_append (a b : List Rn) : flat (a ++ b) = flat a ++ flat b := by simp [flat]
theorem flat_take (l : List Rn) (i : Nat) : flat (l.take i) = (flat l).take (i * 4) := by
  induction l generalizing i with
  | nil => simp [flat]
  | cons a t ih =>
    cases i with
    | zero => simp [flat]
    | succ i =>
      have := ih i
      simp only [flat, List.take_succ_cons, List.flatMap_cons] at this ⊢
      rw [this, show (i + 1) * 4 = i * 4 + 4 by omega]
      simp [Rn.cells]
theorem flat_drop (l : List Rn) (i : Nat) : flat (l.drop i) = (flat l).drop (i * 4) := by
  induction l generalizing i with
  | nil => simp [flat]
  | cons a t ih =>
    cases i with
    | zero => simp [flat]
    | succ i =>
      have := ih i
      simp only [flat, List.drop_succ_cons, List.flatMap_cons] at this ⊢
      rw [this, show (i + 1) * 4 = i * 4 + 4 by omega]
      simp [Rn.cells]
theorem flat_one (l : List Rn) : ∀ v ∈ flat l, v.oneCell' = true := by
  intro v hv
  simp only [flat, List.mem_flatMap, Rn.cells] at hv
  obtain ⟨r, _, hr⟩ := hv
  simp at hr
  rcases hr with rfl | rfl | rfl | rfl <;> rfl

theorem run_copy_rowN {P : Program} (w : World) (dT sT ty elem : TypeId) (sz : Nat) (g o dLen dCap : Nat) (a : Addr) (sLen sCap : Nat) (cur : Array Value) (t : TypeId) (cs : List Value)
    (hu : P.underlying dT = some (.slice elem)) (hs : (P.info? elem).map (·.size) = some sz)
    (hg : w.heap[g]? = some (.cells cur t (0, 0))) (hn : cs.length = Nat.min sLen dLen * sz)
    (hsrc : ∀ j v, cs[j]? = some v → w.cell? (a.add j) = some v) (hfit : o + cs.length ≤ cur.size) (h1 : ∀ v ∈ cs, v.oneCell' = true) :
    (Builtin.copy_ #[dT, sT] ty #[.slice (some ⟨g, o, none⟩) dLen dCap, .slice (some a) sLen sCap]).run P w =
      .ok (goInt (Nat.min sLen dLen)) (w.setRow g (splice cur.toList o cs).toArray) := by
  have hst := run_storeCells_at P g o t cs 0 cur w hg (by simpa using hfit) h1
  cases hq : P.info? elem with
  | none => simp [hq] at hs
  | some i =>
    have hi : i.size = sz := by simpa [hq] using hs
    have hf := run_firstCells_some (P := P) w i.size (Nat.min sLen dLen) a sLen sCap cs (by rw [hi]; exact hn) hsrc
    simp only [Nat.add_zero] at hst
    simp [Builtin.copy_, run_underlying hu, Builtin.lenOf, sizeOf, typeInfo, hq, hf, hst, splice]

theorem Tryz.infoRun : (Tryz.prog.info? 85).map (fun i => (i.zero, i.size, i.bytes)) = some (some (.agg #[.int .i64 0, .int .i64 0, .int .i64 0, .int .i64 0]), 4, 32) := by kernel_rfl

theorem run_append_tx {P : Program} (w : World) (t tx ty e e' : TypeId) (i : TypeInfo) (ht : P.underlying t = some (.slice e)) (hx : P.underlying tx = some (.slice e')) (hi : P.info? e = some i) (a : Option Addr) (n c : Nat) (b : Value) :
    (Builtin.append_ #[t, tx] ty #[.slice a n c, b]).run P w = (Builtin.append_ #[t, t] ty #[.slice a n c, b]).run P w := by
  simp [Builtin.append_, run_underlying ht, run_underlying hx, sizeOf, typeInfo, hi]

/-- The runs lie in the row that the world owns. -/
theorem RowAt.owned {w : World} {base g n cap : Nat} {l : List Rn} (h : w.ownsRow base 85 4 (.slice (some ⟨g, 0, none⟩) n cap) n (flat l)) : RowAt w g l := by
  intro i r hr
  have hlen : (flat l).length = n * 4 := h.1
  rw [flat_length] at hlen
  have hi : i < l.length := (List.getElem?_eq_some_iff.1 hr).1
  have hcell : ∀ j, j < 4 → w.cell? ⟨g, i * 4 + j, none⟩ = (r.cells)[j]? := by
    intro j hj
    rw [h.cellAt (i * 4 + j) (by omega)]
    have h1 : (flat l)[i * 4 + j]? = ((flat l).drop (i * 4))[j]? := by rw [List.getElem?_drop]
    rw [h1, ← flat_drop, List.drop_eq_getElem_cons hi]
    have : l[i] = r := by rw [List.getElem?_eq_getElem hi] at hr; exact Option.some.inj hr
    rw [this]
    simp only [flat, List.flatMap_cons]
    rw [List.getElem?_append_left (by simpa [Rn.cells] using hj)]
  exact ⟨by simpa [Rn.cells] using hcell 0 (by omega), by simpa [Rn.cells] using hcell 1 (by omega), by simpa [Rn.cells] using hcell 2 (by omega), by simpa [Rn.cells] using hcell 3 (by omega)⟩

theorem cells_at_block {w : World} {vb : Nat} {cs : Array Value} {t : TypeId} (h : w.heap[vb]? = some (.cells cs t (0, 0))) : ∀ j u, cs.toList[j]? = some u → w.cell? ((⟨vb, 0, none⟩ : Addr).add j) = some u := by
  intro j u hu
  have hadd : (⟨vb, 0, none⟩ : Addr).add j = ⟨vb, j, none⟩ := by unfold Addr.add; split <;> simp_all
  rw [hadd]
  simp [World.cell?, h]
  simpa using hu


set_option maxHeartbeats 2000000 in
set_option maxRecDepth 100000 in
/-- At the end of the list. -/
theorem Insert_end (base : Nat) (v : Value) (l : List Rn) (r : Rn) (vb : Nat) (w : World) (hown : w.ownsRow base 85 4 v l.length (flat l)) (hbase : base ≤ w.heap.size) (hl : l.length < 1000000)
    (hvb : w.heap[vb]? = some (.cells #[.int .i64 r.p, .int .i64 r.k, .int .i64 r.f, .int .i64 r.t] 85 (0, 0))) :
    Calls Tryz.prog 120 #[v, .int .i64 l.length, .slice (some ⟨vb, 0, none⟩) 1 1] w fun e w' => ∃ v', e = .returned v' ∧ w'.ownsRow base 85 4 v' (l.length + 1) (flat (l ++ [r])) ∧ w.grownBy w' v.ownBlock := by
  obtain ⟨i0, hi, hz0, hz1, hz2⟩ := info_parts Tryz.infoRun
  have hr : ∀ ty, ∃ v' w', (Builtin.append_ #[65, 64] ty #[v, .slice (some ⟨vb, 0, none⟩) 1 1]).run Tryz.prog w = .ok v' w' ∧ w'.ownsRow base 85 4 v' (l.length + 1) (flat l ++ r.cells) ∧ w.grownBy w' v.ownBlock := fun ty => by
    obtain ⟨v', w', h1, h2, h3, _⟩ := run_append_own (P := Tryz.prog) w base 65 ty 85 i0 _ 4 32 Tryz.underlying65 hi hz0 hz1 hz2 rfl (by decide) v l.length (flat l) hown ⟨vb, 0, none⟩ 1 1 r.cells rfl (cells_at_block hvb) (by simp [Rn.cells, Value.oneCell']) (by unfold maxLen; omega) (by omega) hbase
    have hsl : ∃ a n c, v = .slice a n c := by
      rcases hown.2 with ⟨h, _⟩ | ⟨g, cap, _, h, _⟩
      · exact ⟨_, _, _, h⟩
      · exact ⟨_, _, _, h⟩
    obtain ⟨a, n, c, rfl⟩ := hsl
    exact ⟨v', w', by rw [run_append_tx w _ _ _ _ _ i0 Tryz.underlying65 Tryz.underlying64 hi]; exact h1, h2, h3⟩
  have hform : (v = .slice none 0 0 ∧ l.length = 0) ∨ ∃ g cap, v = .slice (some ⟨g, 0, none⟩) l.length cap ∧ l.length ≤ cap ∧ cap ≤ maxLen := by
    rcases hown.2 with ⟨h, h'⟩ | ⟨g, cap, cur, h, _, _, h2, h3, _⟩
    · exact Or.inl ⟨h, by omega⟩
    · exact Or.inr ⟨g, cap, h, by omega, h3⟩
  have HR : Hid _ := hr
  have HO : Hid _ := hown
  clear hr hown hvb
  have hcl : flat l ++ r.cells = flat (l ++ [r]) := by simp [flat]
  have HC : Hid _ := hcl
  clear hcl hi hz0 hz1 hz2
  rcases hform with ⟨rfl, hl0⟩ | ⟨g, cap, rfl, hcap, hm⟩
  · obtain rfl : l = [] := List.eq_nil_of_length_eq_zero hl0
    clear hl0
    go_enter Tryz.func120, Tryz.ntmps120
    obtain ⟨v', w', hrun, h2, h3⟩ := HR.out 65
    have X : Hid _ := And.intro h2 h3
    clear h2 h3
    go_wp2_with (at_builtin; refine Lib.wpList_append_run _ rfl _ _ _ _ rfl _ _ rfl rfl _ _ hrun ?_)
    go_ret
    exact ⟨_, rfl, X.out.1, X.out.2⟩
  · unfold maxLen at hm
    go_enter Tryz.func120, Tryz.ntmps120
    obtain ⟨v', w', hrun, h2, h3⟩ := HR.out 65
    have X : Hid _ := And.intro h2 h3
    clear h2 h3
    go_wp2_with (at_builtin; refine Lib.wpList_append_run _ rfl _ _ _ _ rfl _ _ rfl rfl _ _ hrun ?_)
    all_goals go_ret
    all_goals exact ⟨_, rfl, by rw [← HC.out]; exact X.out.1, X.out.2⟩

theorem splice_ins (C : List Value) (l : List Rn) (i : Nat) (r : Rn) (cap : Nat) (hC : C.length = cap * 4) (hi : i < l.length) (hroom : l.length + 1 ≤ cap) (htake : C.take (l.length * 4) = flat l) :
    (splice (splice C ((i + 1) * 4) (flat (l.drop i))) (i * 4) r.cells).toArray.toList.take ((l.length + 1) * 4) = flat (insAt l i r) := by
  have hfl : (flat (l.drop i)).length = (l.length - i) * 4 := by rw [flat_length, List.length_drop]
  have hrl : r.cells.length = 4 := rfl
  have e1 : C.take (i * 4) = flat (l.take i) := by
    rw [flat_take, ← htake, List.take_take, Nat.min_eq_left (by omega)]
  have e0 : flat (insAt l i r) = flat (l.take i) ++ (r.cells ++ flat (l.drop i)) := by simp [insAt, flat]
  have e2 : (C.take ((i + 1) * 4) ++ (flat (l.drop i) ++ C.drop ((i + 1) * 4 + (flat (l.drop i)).length))).take (i * 4) = flat (l.take i) := by
    rw [List.take_append_of_le_length (by rw [List.length_take]; omega), List.take_take, Nat.min_eq_left (by omega), e1]
  have e3 : (C.take ((i + 1) * 4) ++ (flat (l.drop i) ++ C.drop ((i + 1) * 4 + (flat (l.drop i)).length))).drop (i * 4 + 4) = flat (l.drop i) ++ C.drop ((i + 1) * 4 + (flat (l.drop i)).length) := by
    have : i * 4 + 4 = (C.take ((i + 1) * 4)).length := by rw [List.length_take]; omega
    rw [this, List.drop_left]
  have hft : (flat (l.take i)).length = i * 4 := by rw [flat_length, List.length_take]; omega
  rw [List.toList_toArray, splice, splice, hrl, e2, e3, e0]
  rw [← List.append_assoc r.cells, ← List.append_assoc (flat (l.take i))]
  rw [List.take_append_of_le_length (by simp only [List.length_append, hft, hrl, hfl]; omega)]
  exact List.take_of_length_le (by simp only [List.length_append, hft, hrl, hfl]; omega)

set_option maxHeartbeats 4000000 in
set_option maxRecDepth 100000 in
/-- In the midst of the list, there is room: in place. -/
theorem Insert_room (base g cap i : Nat) (l : List Rn) (r : Rn) (vb : Nat) (w : World) (hown : w.ownsRow base 85 4 (.slice (some ⟨g, 0, none⟩) l.length cap) l.length (flat l)) (hl : l.length < 1000000) (hi : i < l.length) (hroom : l.length + 1 ≤ cap)
    (hvb : w.heap[vb]? = some (.cells #[.int .i64 r.p, .int .i64 r.k, .int .i64 r.f, .int .i64 r.t] 85 (0, 0))) (hne : vb ≠ g) :
    Calls Tryz.prog 120 #[.slice (some ⟨g, 0, none⟩) l.length cap, .int .i64 i, .slice (some ⟨vb, 0, none⟩) 1 1] w fun e w' => ∃ v', e = .returned v' ∧ w'.ownsRow base 85 4 v' (l.length + 1) (flat (insAt l i r)) ∧ w.grownBy w' (some g) := by
  obtain ⟨i0, hi0, hz0, hz1, hz2⟩ := info_parts Tryz.infoRun
  have hsz : (Tryz.prog.info? 85).map (·.size) = some 4 := by rw [hi0]; simp [hz1]
  obtain ⟨h1, h2⟩ := hown
  rcases h2 with ⟨h2, _⟩ | ⟨g', cap', cur, h2, hbg, hcur, hcap, hmax, hsize, htake⟩
  · cases h2
  cases h2
  unfold maxLen at hmax
  have hov : ∀ lb cb, (callFunc 137 #[.slice (some ⟨vb, 0, none⟩) 1 1, .slice (some ⟨g, (i + 1) * 4, none⟩) lb cb]).run Tryz.prog w = .ok (.value (.bool false)) w := fun lb cb => by
    rw [run_callFunc_extern Tryz.func137 (by kernel_rfl) (by kernel_rfl) (by kernel_rfl) (e := Extern.SlicesOverlaps.overlaps #[64, 64] #[4]) (by kernel_rfl),
      Lib.run_overlaps_apart w 64 4 85 Tryz.underlying64 4 (fun w => by simp [sizeOf, typeInfo, hi0, hz1]) ⟨vb, 0, none⟩ ⟨g, (i + 1) * 4, none⟩ 1 1 lb cb hne 85 85 4 cur.size (by simp [World.shape?, hvb]) (by simp [World.shape?, hcur]) (by omega) (by simp [World.frozen?, hvb]) (by simp [World.frozen?, hvb])]
    rfl
  have hcs : ∀ j u, (flat l)[j]? = some u → cur.toList[j]? = some u := fun j u hj => by
    rw [← htake, List.getElem?_take] at hj
    split at hj
    · exact hj
    · cases hj
  have hcp1 : ∀ ty, (Builtin.copy_ #[65, 65] ty #[.slice (some ⟨g, (i + 1) * 4, none⟩) (l.length - i) (cap - (i + 1)), .slice (some ⟨g, i * 4, none⟩) (l.length + 1 - i) (cap - i)]).run Tryz.prog w.drew = .ok (goInt ((l.length - i : Nat) : Int)) (w.drew.setRow g (splice cur.toList ((i + 1) * 4) (flat (l.drop i))).toArray) := fun ty => by
    have hmin : Nat.min (l.length + 1 - i) (l.length - i) = l.length - i := by simp only [Nat.min_def]; split <;> omega
    have := run_copy_rowN (P := Tryz.prog) w.drew 65 65 ty 85 4 g ((i + 1) * 4) (l.length - i) (cap - (i + 1)) ⟨g, i * 4, none⟩ (l.length + 1 - i) (cap - i) cur 85 (flat (l.drop i)) Tryz.underlying65 hsz hcur
      (by rw [hmin, flat_length, List.length_drop])
      (fun j u hj => by
        rw [Addr.add_lit, flat_drop, List.getElem?_drop] at *
        have := hcs _ _ hj
        show w.cell? _ = _
        simp only [World.cell?, hcur]
        simpa using this)
      (by rw [flat_length, List.length_drop, hsize]; omega) (flat_one _)
    rw [hmin] at this
    exact this
  have hfl : (flat (l.drop i)).length = (l.length - i) * 4 := by rw [flat_length, List.length_drop]
  obtain ⟨C1, hC1⟩ : ∃ C1, C1 = splice cur.toList ((i + 1) * 4) (flat (l.drop i)) := ⟨_, rfl⟩
  have hcl : cur.toList.length = cap * 4 := by simpa using hsize
  have hC1l : C1.length = cap * 4 := by rw [hC1, length_splice _ _ _ (by rw [hfl, hcl]; omega)]; exact hcl
  rw [← hC1] at hcp1
  have hW1 : (w.drew.setRow g C1.toArray).heap[g]? = some (.cells C1.toArray 85 (0, 0)) := setRow_heap w.drew g cur _ _ _ hcur
  have hcp2 : ∀ ty, (Builtin.copy_ #[65, 64] ty #[.slice (some ⟨g, i * 4, none⟩) (l.length + 1 - i) (cap - i), .slice (some ⟨vb, 0, none⟩) 1 1]).run Tryz.prog (w.drew.setRow g C1.toArray) = .ok (goInt 1) ((w.drew.setRow g C1.toArray).setRow g (splice C1 (i * 4) r.cells).toArray) := fun ty => by
    have hmin : Nat.min 1 (l.length + 1 - i) = 1 := by simp only [Nat.min_def]; split <;> omega
    have := run_copy_rowN (P := Tryz.prog) (w.drew.setRow g C1.toArray) 65 64 ty 85 4 g (i * 4) (l.length + 1 - i) (cap - i) ⟨vb, 0, none⟩ 1 1 C1.toArray 85 r.cells Tryz.underlying65 hsz hW1
      (by rw [hmin]; rfl)
      (fun j u hj => by
        rw [cell_setRow_other _ _ _ _ (by simpa [Addr.add] using fun h => by split at h <;> exact hne h)]
        exact cells_at_block (w := w) hvb j u hj)
      (by rw [List.size_toArray, hC1l]; simp [Rn.cells]; omega) (by simp [Rn.cells, Value.oneCell'])
    rw [hmin] at this
    exact this
  have hfin : ((w.drew.setRow g C1.toArray).setRow g (splice C1 (i * 4) r.cells).toArray).ownsRow base 85 4 (.slice (some ⟨g, 0, none⟩) (l.length + 1) cap) (l.length + 1) (flat (insAt l i r)) := by
    refine ⟨by rw [flat_length]; simp [insAt]; omega, Or.inr ⟨g, cap, _, rfl, hbg, setRow_heap _ g _ _ _ _ hW1, hroom, by unfold maxLen; exact hmax, ?_, ?_⟩⟩
    · rw [List.size_toArray, length_splice _ _ _ (by simp [Rn.cells]; omega)]; exact hC1l
    · subst hC1
      exact splice_ins cur.toList l i r cap hcl (by omega) hroom htake
  have hgr : w.grownBy ((w.drew.setRow g C1.toArray).setRow g (splice C1 (i * 4) r.cells).toArray) (some g) := by
    refine ⟨rfl, rfl, rfl, by simp, fun k _ hk => ?_⟩
    have : k ≠ g := fun e => hk (by rw [e])
    rw [setRow_other _ _ _ _ this, setRow_other _ _ _ _ this]
    rfl
  have X : Hid _ := And.intro hfin hgr
  clear hfin hgr hcs hsize htake hcur hvb hC1 hC1l hW1 hfl h1 hcl
  obtain ⟨W1, hW1⟩ : ∃ W1, W1 = w.drew.setRow g C1.toArray := ⟨_, rfl⟩
  rw [← hW1] at hcp1 hcp2 X
  obtain ⟨W2, hW2⟩ : ∃ W2, W2 = W1.setRow g (splice C1 (i * 4) r.cells).toArray := ⟨_, rfl⟩
  rw [← hW2] at hcp2 X
  clear hW1 hW2
  have hin : i ≤ l.length := by omega
  have hb2 : ¬ (cap = i + 1) := by omega
  have hb4 : ¬ (cap = i) := by omega
  have hw1 : IntKind.i64.wrap ((i : Int) + 1) = (i : Int) + 1 := by rw [IntKind.wrap_i64]; omega
  have hb1 : (0 : Int) ≤ (i : Int) + 1 := by omega
  have htn : ((i : Int) + 1).toNat = i + 1 := by omega
  have hb3 : (i : Int) ≤ (l.length : Int) + 1 := by omega
  have hb5 : (i : Int) + 1 ≤ (l.length : Int) + 1 := by omega
  have hb6 : l.length + 1 - (i + 1) = l.length - i := by omega
  go_enter Tryz.func120, Tryz.ntmps120
  go_wp2_with (simp only [hov])
  go_region
  go_wp2
  go_ret
  exact ⟨_, rfl, X.out.1, X.out.2⟩

theorem splice_grow (Z : List Value) (l : List Rn) (i : Nat) (r : Rn) (hi : i < l.length) (hZ1 : Z.take (i * 4) = flat (l.take i)) :
    (splice (splice Z (i * 4) r.cells) ((i + 1) * 4) (flat (l.drop i))).toArray.toList.take ((l.length + 1) * 4) = flat (insAt l i r) := by
  have hfl : (flat (l.drop i)).length = (l.length - i) * 4 := by rw [flat_length, List.length_drop]
  have hrl : r.cells.length = 4 := rfl
  have e0 : flat (insAt l i r) = flat (l.take i) ++ (r.cells ++ flat (l.drop i)) := by simp [insAt, flat]
  have hft : (flat (l.take i)).length = i * 4 := by rw [flat_length, List.length_take]; omega
  rw [List.toList_toArray, splice, splice, hrl, hZ1, e0, hfl]
  have e2 : (flat (l.take i) ++ (r.cells ++ Z.drop (i * 4 + 4))).take ((i + 1) * 4) = flat (l.take i) ++ r.cells := by
    rw [← List.append_assoc]
    have : (i + 1) * 4 = (flat (l.take i) ++ r.cells).length := by rw [List.length_append, hft, hrl]; omega
    rw [this, List.take_left]
  rw [e2, List.append_assoc, ← List.append_assoc r.cells, ← List.append_assoc (flat (l.take i))]
  rw [List.take_append_of_le_length (by simp only [List.length_append, hft, hrl, hfl]; omega)]
  exact List.take_of_length_le (by simp only [List.length_append, hft, hrl, hfl]; omega)

set_option maxHeartbeats 4000000 in
set_option maxRecDepth 100000 in
/-- In the midst of the list, there is no room: a new row. -/
theorem Insert_grow (base g cap i : Nat) (l : List Rn) (r : Rn) (vb : Nat) (w : World) (hown : w.ownsRow base 85 4 (.slice (some ⟨g, 0, none⟩) l.length cap) l.length (flat l)) (hbase : base ≤ w.heap.size) (hl : l.length < 1000000) (hi : i < l.length) (hroom : cap < l.length + 1)
    (hvb : w.heap[vb]? = some (.cells #[.int .i64 r.p, .int .i64 r.k, .int .i64 r.f, .int .i64 r.t] 85 (0, 0))) :
    Calls Tryz.prog 120 #[.slice (some ⟨g, 0, none⟩) l.length cap, .int .i64 i, .slice (some ⟨vb, 0, none⟩) 1 1] w fun e w' => ∃ v', e = .returned v' ∧ w'.ownsRow base 85 4 v' (l.length + 1) (flat (insAt l i r)) ∧ w.grownBy w' (some g) := by
  obtain ⟨i0, hi0, hz0, hz1, hz2⟩ := info_parts Tryz.infoRun
  have hsz : (Tryz.prog.info? 85).map (·.size) = some 4 := by rw [hi0]; simp [hz1]
  have hrow := hown
  obtain ⟨h1, h2⟩ := hown
  rcases h2 with ⟨h2, _⟩ | ⟨g', cap', cur, h2, hbg, hcur, hcap, hmax, hsize, htake⟩
  · cases h2
  cases h2
  unfold maxLen at hmax
  have hcs : ∀ j u, (flat l)[j]? = some u → w.cell? ⟨g, j, none⟩ = some u := fun j u hj => by
    rw [← htake, List.getElem?_take] at hj
    split at hj
    · simp only [World.cell?, hcur]; simpa using hj
    · cases hj
  have hgw : g < w.heap.size := (Array.getElem?_eq_some_iff.1 hcur).1
  have hvw : vb < w.heap.size := (Array.getElem?_eq_some_iff.1 hvb).1
  have hold : (Builtin.firstCells i0.size i (.slice (some ⟨g, 0, none⟩) i cap)).run Tryz.prog w.drew = .ok (flat (l.take i)).toArray w.drew := by
    rw [hz1]
    exact run_firstCells_some w.drew 4 i ⟨g, 0, none⟩ i cap (flat (l.take i)) (by rw [flat_length, List.length_take]; omega) (fun j v hj => by
      rw [Addr.add_lit, flat_take, List.getElem?_take] at *
      split at hj
      · rw [Nat.zero_add]; exact hcs j v hj
      · cases hj)
  obtain ⟨k, hk⟩ : ∃ k, k = l.length + 1 - i := ⟨_, rfl⟩
  have hik : i + k = l.length + 1 := by omega
  obtain ⟨G, hG⟩ : ∃ G, G = grownCap w (l.length + 1) cap 85 := ⟨_, rfl⟩
  have hGn : l.length + 1 ≤ G := by rw [hG]; exact grownCap_ge w _ _ _
  have hGm : G ≤ maxLen := by rw [hG]; exact grownCap_le_maxLen w (l.length + 1) cap _ (by unfold maxLen; omega)
  obtain ⟨Z, hZ⟩ : ∃ Z : List Value, Z = flat (l.take i) ++ ((Builtin.zeroCells (Value.agg #[.int .i64 0, .int .i64 0, .int .i64 0, .int .i64 0]).cells k).toList ++ (Builtin.zeroCells (Value.agg #[.int .i64 0, .int .i64 0, .int .i64 0, .int .i64 0]).cells (G - (l.length + 1))).toList) := ⟨_, rfl⟩
  have hft : (flat (l.take i)).length = i * 4 := by rw [flat_length, List.length_take]; omega
  have hZl : Z.length = G * 4 := by
    rw [hZ]
    simp only [List.length_append, Array.length_toList, size_zeroCells, hft, Value.cells]
    simp
    omega
  have hZ1 : Z.take (i * 4) = flat (l.take i) := by rw [hZ, ← hft, List.take_left]
  have hrz : ∀ ty, (Builtin.append_ #[65, 3] ty #[.slice (some ⟨g, 0, none⟩) i cap, .int .i64 ((l.length : Int) + 1 - (i : Int))]).run Tryz.prog w =
      .ok (.slice (some ⟨w.heap.size, 0, none⟩) (l.length + 1) G) (w.drew.alloc (.cells Z.toArray 85)) := fun ty => by
    have h := Lib.run_append_grow_zeros w 65 3 ty 85 i0 _ .i64 .i64 Tryz.underlying65 Tryz.underlying3 hi0 hz0 (some ⟨g, 0, none⟩) i cap (flat (l.take i)) hold k (by omega) (by omega) (by omega) (by omega) (by rw [hz2]; omega) (by rw [hz2, hik]; exact growslice_fits hroom (by omega))
    rw [hik, ← hG] at h
    rw [show (l.length : Int) + 1 - (i : Int) = (k : Int) by omega, h]
    congr 3
    rw [hZ]
    apply Array.ext'
    simp
  obtain ⟨W1, hW1⟩ : ∃ W1, W1 = w.drew.alloc (.cells Z.toArray 85) := ⟨_, rfl⟩
  have hW1g : W1.heap[w.heap.size]? = some (.cells Z.toArray 85 (0, 0)) := by rw [hW1]; exact heap_alloc_new w.drew _
  have hW1o : ∀ b, b < w.heap.size → W1.heap[b]? = w.heap[b]? := fun b hb => by rw [hW1]; exact Below.heap_alloc w.drew _ b hb
  obtain ⟨C1, hC1⟩ : ∃ C1, C1 = splice Z (i * 4) r.cells := ⟨_, rfl⟩
  have hC1l : C1.length = G * 4 := by rw [hC1, length_splice _ _ _ (by rw [hZl]; simp [Rn.cells]; omega)]; exact hZl
  have hcp1 : ∀ (W : World), W.heap = W1.heap → ∀ ty, (Builtin.copy_ #[65, 64] ty #[.slice (some ⟨w.heap.size, i * 4, none⟩) (l.length + 1 - i) (G - i), .slice (some ⟨vb, 0, none⟩) 1 1]).run Tryz.prog W = .ok (goInt 1) (W.setRow w.heap.size C1.toArray) := fun W hW ty => by
    have hmin : Nat.min 1 (l.length + 1 - i) = 1 := by simp only [Nat.min_def]; split <;> omega
    have := run_copy_rowN (P := Tryz.prog) W 65 64 ty 85 4 w.heap.size (i * 4) (l.length + 1 - i) (G - i) ⟨vb, 0, none⟩ 1 1 Z.toArray 85 r.cells Tryz.underlying65 hsz (by rw [hW]; exact hW1g)
      (by rw [hmin]; rfl)
      (fun j u hj => by
        refine cells_at_block (w := W) (cs := #[.int .i64 r.p, .int .i64 r.k, .int .i64 r.f, .int .i64 r.t]) (t := 85) ?_ j u hj
        rw [hW, hW1o _ hvw]; exact hvb)
      (by rw [List.size_toArray, hZl]; simp [Rn.cells]; omega) (by simp [Rn.cells, Value.oneCell'])
    rw [hmin] at this
    rw [hC1]
    exact this
  obtain ⟨C2, hC2⟩ : ∃ C2, C2 = splice C1 ((i + 1) * 4) (flat (l.drop i)) := ⟨_, rfl⟩
  have hfl : (flat (l.drop i)).length = (l.length - i) * 4 := by rw [flat_length, List.length_drop]
  have hC2l : C2.length = G * 4 := by rw [hC2, length_splice _ _ _ (by rw [hC1l, hfl]; omega)]; exact hC1l
  have hcp2 : ∀ (W : World), W.heap = (W1.setRow w.heap.size C1.toArray).heap → ∀ ty, (Builtin.copy_ #[65, 65] ty #[.slice (some ⟨w.heap.size, (i + 1) * 4, none⟩) (l.length - i) (G - (i + 1)), .slice (some ⟨g, i * 4, none⟩) (l.length - i) (cap - i)]).run Tryz.prog W = .ok (goInt ((l.length - i : Nat) : Int)) (W.setRow w.heap.size C2.toArray) := fun W hW ty => by
    have hmin : Nat.min (l.length - i) (l.length - i) = l.length - i := by simp
    have := run_copy_rowN (P := Tryz.prog) W 65 65 ty 85 4 w.heap.size ((i + 1) * 4) (l.length - i) (G - (i + 1)) ⟨g, i * 4, none⟩ (l.length - i) (cap - i) C1.toArray 85 (flat (l.drop i)) Tryz.underlying65 hsz (by rw [hW]; exact setRow_heap _ _ _ _ _ _ hW1g)
      (by rw [hmin, hfl])
      (fun j u hj => by
        rw [Addr.add_lit, flat_drop, List.getElem?_drop] at *
        have hh : W.heap[g]? = w.heap[g]? := by rw [hW, setRow_other _ _ _ _ (by omega), hW1o _ hgw]
        rw [World.cell?_of_block (w := w) (a := ⟨g, i * 4 + j, none⟩) hh]
        exact hcs _ _ hj)
      (by rw [List.size_toArray, hC1l, hfl]; omega) (flat_one _)
    rw [hmin] at this
    rw [hC2]
    exact this
  have hfin : ∀ (W : World), W.heap = ((W1.setRow w.heap.size C1.toArray).setRow w.heap.size C2.toArray).heap → W.ownsRow base 85 4 (.slice (some ⟨w.heap.size, 0, none⟩) (l.length + 1) G) (l.length + 1) (flat (insAt l i r)) := fun W hW => by
    refine ⟨by rw [flat_length]; simp [insAt]; omega, Or.inr ⟨w.heap.size, G, C2.toArray, rfl, hbase, ?_, hGn, hGm, by rw [List.size_toArray]; exact hC2l, ?_⟩⟩
    · rw [hW]
      exact setRow_heap _ _ _ _ _ _ (setRow_heap _ _ _ _ _ _ hW1g)
    · rw [hC2, hC1]
      exact splice_grow Z l i r hi hZ1
  have hgr : ∀ (W : World), W.os = w.os → W.tape = w.tape → W.output = w.output → W.heap = ((W1.setRow w.heap.size C1.toArray).setRow w.heap.size C2.toArray).heap → w.grownBy W (some g) := fun W h1 h2 h3 hW => by
    refine ⟨h1, h2, h3, by rw [hW]; simp [hW1], fun k hk _ => ?_⟩
    rw [hW, setRow_other _ _ _ _ (by omega), setRow_other _ _ _ _ (by omega), hW1o _ hk]
  have hos : W1.os = w.os := by rw [hW1]; rfl
  have htp : W1.tape = w.tape := by rw [hW1]; rfl
  have hou : W1.output = w.output := by rw [hW1]; rfl
  rw [← hW1] at hrz
  have A1 : Hid _ := hcp1 W1 rfl
  have A2 : Hid _ := hcp2
  have A3 : Hid _ := hfin
  have A4 : Hid _ := hgr
  have A5 : Hid _ := And.intro hos (And.intro htp hou)
  have A6 : Hid _ := hrz
  unfold maxLen at hGm
  clear hcp1 hcp2 hfin hgr hos htp hou hrz hW1 hW1g hW1o hC1 hC2 hC1l hC2l hfl hZ hZl hZ1 hft hG hold hcs hcur hsize htake h1 hrow hik hk hvb hi0 hz0 hz1 hz2 hsz
  have hb1 : (0 : Int) ≤ (i : Int) + 1 := by omega
  have hin : i ≤ l.length := by omega
  have htn : ((i : Int) + 1).toNat = i + 1 := by omega
  have hb3 : (i : Int) ≤ (l.length : Int) := by omega
  have hb5 : (i : Int) + 1 ≤ (l.length : Int) + 1 := by omega
  have hb6 : l.length + 1 - (i + 1) = l.length - i := by omega
  have hGi : ¬ (G = i) := by omega
  have hGim : ¬ (G = i + 1) := by omega
  have hci : ¬ (cap = i) := by omega
  have hw1 : IntKind.i64.wrap ((i : Int) + 1) = (i : Int) + 1 := by rw [IntKind.wrap_i64]; omega
  go_enter Tryz.func120, Tryz.ntmps120
  have hA1 := A1.out
  go_wp2_with (at_builtin; refine Lib.wpList_append_run _ rfl _ _ 65 3 rfl _ _ rfl rfl _ _ (A6.out _) ?_)
  have hA2 := A2.out (W1.setRow w.heap.size C1.toArray).drew rfl
  go_region
  go_wp2
  go_ret
  exact ⟨_, rfl, A3.out _ rfl, A4.out _ A5.out.1 A5.out.2.1 A5.out.2.2 rfl⟩

/-- One run into a row that the caller owns, at whatever place. -/
theorem Insert_any (base : Nat) (v : Value) (l : List Rn) (i : Nat) (r : Rn) (vb : Nat) (w : World) (hown : w.ownsRow base 85 4 v l.length (flat l)) (hbase : base ≤ w.heap.size) (hl : l.length < 1000000) (hi : i ≤ l.length)
    (hvb : w.heap[vb]? = some (.cells #[.int .i64 r.p, .int .i64 r.k, .int .i64 r.f, .int .i64 r.t] 85 (0, 0))) (hne : v.ownBlock ≠ some vb) :
    Calls Tryz.prog 120 #[v, .int .i64 i, .slice (some ⟨vb, 0, none⟩) 1 1] w fun e w' => ∃ v', e = .returned v' ∧ w'.ownsRow base 85 4 v' (l.length + 1) (flat (insAt l i r)) ∧ w.grownBy w' v.ownBlock := by
  by_cases he : i = l.length
  · subst he
    refine (Insert_end base v l r vb w hown hbase hl hvb).mono ?_
    rintro e w' ⟨v', rfl, h1, h2⟩
    exact ⟨v', rfl, by simpa [insAt] using h1, h2⟩
  · rcases hown.2 with ⟨_, h⟩ | ⟨g, cap, cur, rfl, _⟩
    · omega
    · by_cases hroom : l.length + 1 ≤ cap
      · exact Insert_room base g cap i l r vb w hown hl (by omega) hroom hvb (fun e => hne (by rw [e]; rfl))
      · exact Insert_grow base g cap i l r vb w hown hbase hl (by omega) (by omega) hvb
end Go.Proofs.YtaicdjhblbobbabGreat

/- Contract of List.insert: the run comes to the place that the search tells, in a row that the caller owns. -/
namespace Go.Proofs.YtaicdjhblbobbabGreat
open Go.RowKit Go.Lib

theorem gb_trans {w w1 w2 : World} {row : Option Nat} (h : w.grownBy w1 row) (k : w1.grownBy w2 row) : w.grownBy w2 row :=
  ⟨k.os.trans h.os, k.tape.trans h.tape, k.output.trans h.output, Nat.le_trans h.size k.size, fun i hi hne => (k.block i (Nat.lt_of_lt_of_le hi h.size) hne).trans (h.block i hi hne)⟩
theorem gb_below {w w1 : World} (h : Below w.heap.size w w1) (row : Option Nat) : w.grownBy w1 row := ⟨h.os, h.tape, h.output, h.size, fun k hk _ => h.block k hk⟩
theorem gb_refl (w : World) (row : Option Nat) : w.grownBy w row := ⟨rfl, rfl, rfl, Nat.le_refl _, fun _ _ _ => rfl⟩
theorem below_gb {w w1 : World} {row : Option Nat} {B : Nat} (h : w.grownBy w1 row) (hB : B ≤ w.heap.size) (hr : ∀ k, row = some k → B ≤ k) : Below B w w1 :=
  ⟨h.os, h.tape, h.output, h.size, fun k hk => h.block k (by omega) (fun e => by have := hr k e.symm; omega)⟩

set_option maxHeartbeats 2000000 in
set_option maxRecDepth 100000 in
theorem insert_any (base : Nat) (v : Value) (l : List Rn) (i : Nat) (r : Rn) (w : World) (hown : w.ownsRow base 85 4 v l.length (flat l)) (hbase : base ≤ w.heap.size) (hl : l.length < 1000000) (hi : i ≤ l.length)
    (h1 : ∀ t x, l[t]? = some x → t < i → x.ord r < 0) (h2 : ∀ t x, l[t]? = some x → i ≤ t → 0 ≤ x.ord r) :
    Calls Tryz.prog 111 #[v, .agg #[.int .i64 r.p, .int .i64 r.k, .int .i64 r.f, .int .i64 r.t]] w fun e w' => ∃ v', e = .returned v' ∧ w'.ownsRow base 85 4 v' (l.length + 1) (flat (insAt l i r)) ∧ w.grownBy w' v.ownBlock := by
  have hS : ∀ W : World, Below w.heap.size w W → Calls Tryz.prog 118 #[v, .agg #[.int .i64 r.p, .int .i64 r.k, .int .i64 r.f, .int .i64 r.t], .func (.func 119) #[] #[]] W fun e w' => ∃ b, e = .returned (.tuple #[.int .i64 i, .bool b]) ∧ Below W.heap.size W w' := by
    intro W hW
    rcases hown.2 with ⟨rfl, h⟩ | ⟨g, cap, cur, rfl, _, hg, _⟩
    · obtain rfl : i = 0 := by omega
      exact search_nil r W
    · have hgw : g < w.heap.size := (Array.getElem?_eq_some_iff.1 hg).1
      exact search_any g cap l r W (by have := hW.size; omega) (by omega) ((RowAt.owned hown).below hW hgw) i hi h1 h2
  have hI : ∀ W : World, Below w.heap.size w W → ∀ W2 : World, W2 = W.alloc (.cells #[.int .i64 r.p, .int .i64 r.k, .int .i64 r.f, .int .i64 r.t] 85) → Calls Tryz.prog 120 #[v, .int .i64 i, .slice (some ⟨W.heap.size, 0, none⟩) 1 1] W2 fun e w' => ∃ v', e = .returned v' ∧ w'.ownsRow base 85 4 v' (l.length + 1) (flat (insAt l i r)) ∧ w.grownBy w' v.ownBlock := by
    intro W hW W2 hW2
    have hs := hW.size
    have ho : W.ownsRow base 85 4 v l.length (flat l) := hown.kept (gb_below hW none) (by cases hv : v.ownBlock <;> simp)
    refine (Insert_any base v l i r W.heap.size W2 (by rw [hW2]; exact ho.alloc _) (by rw [hW2]; simp; omega) hl hi (by rw [hW2]; exact heap_alloc_new W _) (fun e => by have := (ho.lt _ e).2; omega)).mono ?_
    rintro e w' ⟨v', rfl, h3, h4⟩
    refine ⟨v', rfl, h3, gb_trans (gb_trans (gb_below hW _) ?_) h4⟩
    rw [hW2]
    exact World.grownBy_alloc W _ _
  have HS : Hid _ := hS
  have HI : Hid _ := hI
  clear hS hI h1 h2 hown
  go_enter Tryz.func111, Tryz.ntmps111
  go_wp2_with (first
    | (go_at_call 118; refine (HS.out _ ((Below.refl _ _).alloc (Nat.le_refl _) _)).mono ?_; rintro e w' ⟨b, rfl, hb⟩; obtain ⟨hc, hf⟩ := bcell hb; have HB : Hid _ := hb; have hz := hb.size; simp at hz; clear hb)
    | (go_at_call 120; refine (HI.out w' (((Below.refl _ _).alloc (Nat.le_refl _) _).trans (HB.out.mono (by simp))) _ rfl).mono ?_; rintro e w'' ⟨v', rfl, h3, h4⟩))
  go_ret
  exact ⟨_, rfl, h3, h4⟩
end Go.Proofs.YtaicdjhblbobbabGreat
