/- Plain facts for the statement Painted: the runs of one process, counted and walked along; what the model answers. -/
import Derived.Test.YtaicdjhblbobbaaGreatGProcs
import Derived.Test.YtaicdjhblbobbaaGreatGKeep
namespace Go.Proofs.YtaicdjhblbobbaaGreat
open Go.RowKit Go.Lib

/-- The list l holds just what process 0 has by c on the positions 0 to 63. -/
structure Pts (l : List Rn) (c : Nat → Int) : Prop where
  wf : WF l
  cell : ∀ p i, cellR l p i = if p = 0 ∧ 0 ≤ i ∧ i < 64 then c i.toNat else 0
  kind : ∀ j, c j = 0 ∨ c j = 1 ∨ c j = 2
theorem Pts.proc {l : List Rn} {c : Nat → Int} (h : Pts l c) {x : Rn} (hx : x ∈ l) : x.p = 0 := by
  have hf := h.wf.ok x hx
  unfold Rn.fine at hf
  have := cellR_mem h.wf.ap hx (i := x.f) (by omega) (by omega)
  rw [h.cell] at this
  by_cases hp : x.p = 0
  · exact hp
  · rw [if_neg (fun hh => hp hh.1)] at this; omega
theorem Pts.at {l : List Rn} {c : Nat → Int} (h : Pts l c) {x : Rn} (hx : x ∈ l) {j : Nat} (h1 : x.f ≤ j) (h2 : (j : Int) ≤ x.t) : c j = x.k := by
  have hf := h.wf.ok x hx
  unfold Rn.fine at hf
  have := cellR_mem h.wf.ap hx h1 h2
  rw [h.cell, if_pos ⟨h.proc hx, by omega, by omega⟩] at this
  simpa using this
theorem Pts.none {l : List Rn} {c : Nat → Int} (h : Pts l c) {j : Nat} (hj : j < 64) (hn : ∀ x, x ∈ l → ¬ (x.f ≤ (j : Int) ∧ (j : Int) ≤ x.t)) : c j = 0 := by
  have h1 := cellR_none (l := l) (p := 0) (i := j) (fun x hx hh => hn x hx ⟨hh.2.1, hh.2.2⟩)
  rw [h.cell, if_pos ⟨rfl, by omega, by omega⟩] at h1
  simpa using h1
theorem Pts.has {l : List Rn} {c : Nat → Int} (h : Pts l c) {j : Nat} (hj : j < 64) (hc : c j ≠ 0) : ∃ x, x ∈ l ∧ x.f ≤ (j : Int) ∧ (j : Int) ≤ x.t := by
  refine Classical.byContradiction fun hn => hc (h.none hj fun x hx hh => hn ⟨x, hx, hh.1, hh.2⟩)
theorem Pts.sep {l : List Rn} {c : Nat → Int} (h : Pts l c) : l.Pairwise fun a b => a.t < b.f ∧ (a.t + 1 = b.f → a.k ≠ b.k) := by
  refine List.Pairwise.imp_of_mem ?_ (h.wf.strict.and h.wf.ap)
  intro a b ha hb hab
  have fa := h.wf.ok a ha
  have fb := h.wf.ok b hb
  unfold Rn.fine at fa fb
  have pa := h.proc ha
  have pb := h.proc hb
  obtain ⟨h1, h2⟩ := hab
  unfold Rn.lt at h1
  have := h2 (by omega)
  exact ⟨by omega, fun e hk => by have := this.2 hk; omega⟩

/-- A run begins at j. -/
def startB (c : Nat → Int) (j : Nat) : Bool := decide (c j ≠ 0) && (decide (j = 0) || decide (c (j - 1) ≠ c j))
def cntB (c : Nat → Int) (m : Nat) : Nat := ((List.range m).filter (startB c)).length
theorem cntB_succ (c : Nat → Int) (m : Nat) : cntB c (m + 1) = cntB c m + if startB c m = true then 1 else 0 := by
  unfold cntB
  rw [List.range_succ, List.filter_append, List.length_append]
  by_cases h : startB c m = true <;> simp [h]
theorem cntB_le (c : Nat → Int) (m : Nat) : cntB c m ≤ m := by
  unfold cntB
  have := List.length_filter_le (startB c) (List.range m)
  simpa using this

theorem nat_strict_eq : ∀ (l m : List Nat), l.Pairwise (· < ·) → m.Pairwise (· < ·) → (∀ x, x ∈ l ↔ x ∈ m) → l = m
  | [], [], _, _, _ => rfl
  | [], b :: m, _, _, h => absurd ((h b).2 List.mem_cons_self) (by simp)
  | a :: l, [], _, _, h => absurd ((h a).1 List.mem_cons_self) (by simp)
  | a :: l, b :: m, hl, hm, h => by
    obtain ⟨l1, l2⟩ := List.pairwise_cons.1 hl
    obtain ⟨m1, m2⟩ := List.pairwise_cons.1 hm
    have hab : a = b := by
      rcases List.mem_cons.1 ((h a).1 List.mem_cons_self) with e | e
      · exact e
      · rcases List.mem_cons.1 ((h b).2 List.mem_cons_self) with e' | e'
        · exact e'.symm
        · have x1 := m1 a e
          have x2 := l1 b e'
          omega
    subst hab
    have : l = m := nat_strict_eq l m l2 m2 fun x => by
      have hx := h x
      simp only [List.mem_cons] at hx
      constructor
      · intro hxl
        rcases hx.1 (Or.inr hxl) with e | e
        · subst e; have := l1 _ hxl; omega
        · exact e
      · intro hxm
        rcases hx.2 (Or.inr hxm) with e | e
        · subst e; have := m1 _ hxm; omega
        · exact e
    rw [this]
/-- There are as many runs as positions at which one begins. -/
theorem Pts.count {l : List Rn} {c : Nat → Int} (h : Pts l c) : cntB c 64 = l.length := by
  have e : l.map (fun r => r.f.toNat) = (List.range 64).filter (startB c) := by
    refine nat_strict_eq _ _ ?_ ?_ ?_
    · rw [List.pairwise_map]
      refine List.Pairwise.imp_of_mem ?_ h.sep
      intro a b ha hb hab
      have fa := h.wf.ok a ha
      have fb := h.wf.ok b hb
      unfold Rn.fine at fa fb
      omega
    · exact List.Pairwise.filter _ List.pairwise_lt_range
    · intro j
      rw [List.mem_map, List.mem_filter, List.mem_range]
      constructor
      · rintro ⟨r, hr, rfl⟩
        have hf := h.wf.ok r hr
        have hf' := hf
        unfold Rn.fine at hf'
        have hk := h.at hr (j := r.f.toNat) (by omega) (by omega)
        refine ⟨by omega, ?_⟩
        unfold startB
        rw [Bool.and_eq_true, Bool.or_eq_true, decide_eq_true_eq, decide_eq_true_eq, decide_eq_true_eq]
        refine ⟨by omega, ?_⟩
        by_cases h0 : r.f.toNat = 0
        · exact Or.inl h0
        · right
          intro hc
          have hm := (h.wf.max hr).2.2.1
          rw [h.cell, if_pos ⟨h.proc hr, by omega, by omega⟩, show (r.f - 1).toNat = r.f.toNat - 1 by omega] at hm
          exact hm (by rw [hc, hk])
      · rintro ⟨hj, hs⟩
        unfold startB at hs
        rw [Bool.and_eq_true, Bool.or_eq_true, decide_eq_true_eq, decide_eq_true_eq, decide_eq_true_eq] at hs
        obtain ⟨x, hx, h1, h2⟩ := h.has hj hs.1
        refine ⟨x, hx, ?_⟩
        have hf := h.wf.ok x hx
        unfold Rn.fine at hf
        by_cases he : x.f = j
        · omega
        · exfalso
          rcases hs.2 with e0 | e0
          · omega
          · have k1 := h.at hx (j := j) h1 h2
            have k2 := h.at hx (j := j - 1) (by omega) (by omega)
            exact e0 (by rw [k1, k2])
  unfold cntB
  rw [← e, List.length_map]

/-- The position behind the first i runs. -/
def behind (l : List Rn) (i : Nat) : Int := if i = 0 then 0 else (l.getD (i - 1) default).t + 1
theorem Pts.order {l : List Rn} {c : Nat → Int} (h : Pts l c) {a b : Nat} {x y : Rn} (hab : a < b) (hx : l[a]? = some x) (hy : l[b]? = some y) : x.t < y.f ∧ (x.t + 1 = y.f → x.k ≠ y.k) := by
  have hb : b < l.length := (List.getElem?_eq_some_iff.1 hy).1
  have := List.pairwise_iff_getElem.1 h.sep a b (by omega) hb hab
  rw [List.getElem?_eq_getElem (by omega)] at hx hy
  rw [← Option.some.inj hx, ← Option.some.inj hy]
  exact this
theorem Pts.behind_le {l : List Rn} {c : Nat → Int} (h : Pts l c) {i : Nat} {x : Rn} (hx : l[i]? = some x) : behind l i ≤ x.f ∧ 0 ≤ behind l i := by
  have hf := h.wf.ok x (List.mem_of_getElem? hx)
  unfold Rn.fine at hf
  unfold behind
  split
  · omega
  · have hi : i < l.length := (List.getElem?_eq_some_iff.1 hx).1
    have hy : l[i - 1]? = some (l.getD (i - 1) default) := by rw [List.getD_eq_getElem?_getD, List.getElem?_eq_getElem (by omega)]; rfl
    have := h.order (a := i - 1) (b := i) (by omega) hy hx
    have hfy := h.wf.ok _ (List.mem_of_getElem? hy)
    unfold Rn.fine at hfy
    omega
theorem behind_succ {l : List Rn} {i : Nat} {x : Rn} (hx : l[i]? = some x) : behind l (i + 1) = x.t + 1 := by
  unfold behind
  rw [if_neg (by omega), show i + 1 - 1 = i by omega, List.getD_eq_getElem?_getD, hx]
  rfl
/-- Between the first i runs and the next one (or the end) there is nothing. -/
theorem Pts.gap {l : List Rn} {c : Nat → Int} (h : Pts l c) {i j : Nat} (hj : j < 64) (h1 : behind l i ≤ j) (h2 : ∀ x, l[i]? = some x → (j : Int) < x.f) (hi : i ≤ l.length) : c j = 0 := by
  refine h.none hj fun y hy hh => ?_
  obtain ⟨a, ha, rfl⟩ := List.getElem_of_mem hy
  have hya : l[a]? = some l[a] := List.getElem?_eq_getElem ha
  rcases Nat.lt_trichotomy a i with e | e | e
  · unfold behind at h1
    rw [if_neg (by omega)] at h1
    have hx : l[i - 1]? = some (l.getD (i - 1) default) := by rw [List.getD_eq_getElem?_getD, List.getElem?_eq_getElem (by omega)]; rfl
    by_cases e2 : a = i - 1
    · rw [← e2, hya] at hx
      have := Option.some.inj hx
      rw [← e2, ← this] at h1
      omega
    · have := h.order (a := a) (b := i - 1) (by omega) hya hx
      have hfx := h.wf.ok _ (List.mem_of_getElem? hx)
      unfold Rn.fine at hfx
      omega
  · have := h2 l[a] (by rw [← e]; exact hya)
    omega
  · have hx : l[i]? = some l[i] := List.getElem?_eq_getElem (by omega)
    have := h2 l[i] hx
    have h3 := h.order e hx hya
    have hfx := h.wf.ok _ (List.mem_of_getElem? hx)
    unfold Rn.fine at hfx
    omega

/-- The positions painted. -/
def paint (c : Nat → Int) (f n : Int) (k : Int) : Nat → Int := fun j => if f ≤ (j : Int) ∧ (j : Int) < f + n then k else c j
theorem Pts.set {l : List Rn} {c : Nat → Int} (h : Pts l c) {f n k : Int} (h0 : 0 ≤ f) (h1 : 1 ≤ n) (h2 : f + n ≤ 64) (hk : k = 0 ∨ k = 1 ∨ k = 2) : Pts (setR l ⟨0, k, f, f + n - 1⟩) (paint c f n k) := by
  obtain ⟨w1, w2⟩ := setR_all h.wf (r := ⟨0, k, f, f + n - 1⟩) h0 (by simp only; omega) (by simp only; omega) hk
  refine ⟨w1, fun p i => ?_, fun j => ?_⟩
  · rw [w2, h.cell]
    simp only [paint]
    by_cases hp : p = 0
    · subst hp
      by_cases hi : f ≤ i ∧ i ≤ f + n - 1
      · rw [if_pos ⟨rfl, hi⟩, if_pos ⟨rfl, by omega, by omega⟩, if_pos ⟨by omega, by omega⟩]
      · rw [if_neg (fun hh => hi hh.2)]
        by_cases hj : 0 ≤ i ∧ i < 64
        · rw [if_pos ⟨rfl, hj⟩, if_pos ⟨rfl, hj⟩, if_neg (fun hh => hi ⟨by omega, by omega⟩)]
        · rw [if_neg (fun hh => hj hh.2), if_neg (fun hh => hj hh.2)]
    · rw [if_neg (fun hh => hp hh.1), if_neg (fun hh => hp hh.1), if_neg (fun hh => hp hh.1)]
  · simp only [paint]
    split
    · exact hk
    · exact h.kind j
theorem Pts.nil : Pts [] (fun _ => 0) := by
  refine ⟨⟨List.Pairwise.nil, ?_, List.Pairwise.nil⟩, fun p i => by simp [cellR], fun _ => Or.inl rfl⟩
  intro x hx
  cases hx
/-- Process 0 has an opening of file 0 as descriptor 0; nobody waits; the runs of file 0 are l. -/
structure POk (s : DS) (l : List Rn) : Prop where
  lv : liveB s.L 0 = true
  f : ∃ o, s.F 0 0 = some o ∧ s.O o = 0
  r : s.R 0 = l
  q : s.Q = []
theorem POk.start : POk (stC (someC 2)) [] := ⟨by decide +kernel, ⟨0, by decide +kernel, by decide +kernel⟩, by decide +kernel, by decide +kernel⟩
theorem POk.lock {s : DS} {l : List Rn} {c : Nat → Int} (hs : POk s l) (hp : Pts l c) (k f n : Int) (h0 : 0 ≤ f) (h1 : 1 ≤ n) (h2 : f + n ≤ 64) (hk : k = 0 ∨ k = 1 ∨ k = 2) :
    ∃ (E : Int) (s' : DS), (∀ wt, s.step (.lock 0 0 k f n wt) = (s', ⟨E, 0, []⟩)) ∧ ((12 < cntB (paint c f n k) 64 ∧ E = 9 ∧ POk s' l) ∨ (cntB (paint c f n k) 64 ≤ 12 ∧ E = 0 ∧ POk s' (setR l ⟨0, k, f, f + n - 1⟩))) := by
  obtain ⟨o, hfo, hoo⟩ := hs.f
  have hbad : badS f n = false := by simp [badS]; omega
  have hfr : fromS f n = f := by unfold fromS; rw [if_neg (by omega)]
  have hto : toS f n = f + n - 1 := by unfold toS; rw [if_neg (by omega), if_pos (by omega)]
  have hkb : kindB k = true := by rcases hk with rfl | rfl | rfl <;> rfl
  have hfd : s.find 0 0 = .ok o := by
    unfold DS.find DS.may DS.waits
    rw [hs.lv, hs.q]
    simp [hfo]
  have hway : s.way ⟨0, k, 0, false, o, f, f + n - 1⟩ s.Q = [] := by
    unfold DS.way
    rw [hs.q]
    simp only [List.filter_nil, List.map_nil, List.nil_append, Bool.false_eq_true, if_false, Ask.run, hs.r]
    have : holders l ⟨0, k, f, f + n - 1⟩ = [] := List.filter_eq_nil_iff.2 fun q _ => by
      simp only [List.any_eq_true, Bool.and_eq_true, decide_eq_true_eq, not_exists, not_and]
      intro x hx _ hb
      simp [Rn.bites, bitesB, hp.proc hx] at hb
    rw [this]
    rfl
  have hcnt := (hp.set h0 h1 h2 hk).count
  have hstep : ∀ wt, s.step (.lock 0 0 k f n wt) = s.ask ⟨0, k, 0, false, o, f, f + n - 1⟩ wt := fun wt => by
    show s.lock 0 0 k f n wt = _
    unfold DS.lock
    rw [hfd]
    simp only [hbad, hoo, hfr, hto, hkb, Bool.false_eq_true, if_false, Bool.true_eq_false]
  have htake : s.take ⟨0, k, 0, false, o, f, f + n - 1⟩ = if 12 < (setR l ⟨0, k, f, f + n - 1⟩).length then (s, 9) else ({s with R := updR s.R 0 (setR l ⟨0, k, f, f + n - 1⟩)}, 0) := by
    unfold DS.take
    simp only [Bool.false_eq_true, if_false, Ask.run, hs.r]
  rw [hcnt]
  have hask : ∀ wt, s.ask ⟨0, k, 0, false, o, f, f + n - 1⟩ wt = if (s.take ⟨0, k, 0, false, o, f, f + n - 1⟩).2 ≠ 0 then (s, rerr (s.take ⟨0, k, 0, false, o, f, f + n - 1⟩).2) else (s.take ⟨0, k, 0, false, o, f, f + n - 1⟩).1.settled := fun wt => by
    unfold DS.ask
    rw [if_pos (Or.inr hway)]
  rw [htake] at hask
  by_cases hN : 12 < (setR l ⟨0, k, f, f + n - 1⟩).length
  · refine ⟨9, s, fun wt => ?_, Or.inl ⟨hN, rfl, hs⟩⟩
    rw [hstep, hask, if_pos hN, if_pos (by simp)]
    rfl
  · refine ⟨0, {s with R := updR s.R 0 (setR l ⟨0, k, f, f + n - 1⟩)}, fun wt => ?_, Or.inr ⟨by omega, rfl, ⟨hs.lv, hs.f, rfl, hs.q⟩⟩⟩
    rw [hstep, hask, if_neg hN, if_neg (by simp)]
    unfold DS.settled DS.settle
    rw [show ({s with R := updR s.R 0 (setR l ⟨0, k, f, f + n - 1⟩)} : DS).Q.length = 0 by show s.Q.length = 0; rw [hs.q]; rfl]
    rfl
end Go.Proofs.YtaicdjhblbobbaaGreat
