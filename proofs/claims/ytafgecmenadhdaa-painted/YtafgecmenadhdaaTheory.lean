/- The plain theory of lists of runs: what a process has on a position; lists in good form are told by that alone; what a lock that comes or goes makes of it. -/
import Derived.Test.YtafgecmenadhdaaPureJoin
namespace Go.Proofs.Ytafgecmenadhdaa

/-- What process p has on position i. -/
def cellR (l : List Rn) (p i : Int) : Int := ((l.find? fun r => decide (r.p = p ∧ r.f ≤ i ∧ i ≤ r.t)).map (·.k)).getD 0
def Rn.fine (r : Rn) : Prop := 0 ≤ r.f ∧ r.f ≤ r.t ∧ r.t ≤ 63 ∧ (r.k = 1 ∨ r.k = 2)
/-- Two runs of one process have no position in common, and are not side by side with one kind. -/
def Rn.apart (a b : Rn) : Prop := a.p = b.p → (a.t < b.f ∨ b.t < a.f) ∧ (a.k = b.k → a.t + 1 ≠ b.f ∧ b.t + 1 ≠ a.f)
theorem Rn.apart.symm {a b : Rn} (h : a.apart b) : b.apart a := fun e => by
  obtain ⟨h1, h2⟩ := h e.symm
  exact ⟨by omega, fun hk => by have := h2 hk.symm; omega⟩
structure WF (l : List Rn) : Prop where
  srt : Srt l
  ok : ∀ x, x ∈ l → x.fine
  ap : l.Pairwise Rn.apart

theorem ap_mem {l : List Rn} (h : l.Pairwise Rn.apart) {x y : Rn} (hx : x ∈ l) (hy : y ∈ l) : x = y ∨ x.apart y := by
  induction l with
  | nil => cases hx
  | cons a t ih =>
    obtain ⟨h1, h2⟩ := List.pairwise_cons.1 h
    rcases List.mem_cons.1 hx with ex | hx' <;> rcases List.mem_cons.1 hy with ey | hy'
    · exact Or.inl (ex.trans ey.symm)
    · rw [ex]; exact Or.inr (h1 y hy')
    · rw [ey]; exact Or.inr (h1 x hx').symm
    · exact ih h2 hx' hy'
/-- Two runs that have a position in common for one process are one. -/
theorem ap_one {l : List Rn} (h : l.Pairwise Rn.apart) {x y : Rn} (hx : x ∈ l) (hy : y ∈ l) (hp : x.p = y.p) {i : Int} (h1 : x.f ≤ i) (h2 : i ≤ x.t) (h3 : y.f ≤ i) (h4 : i ≤ y.t) : x = y := by
  rcases ap_mem h hx hy with e | e
  · exact e
  · have := (e hp).1; omega

theorem cellR_mem {l : List Rn} (h : l.Pairwise Rn.apart) {x : Rn} (hx : x ∈ l) {i : Int} (h1 : x.f ≤ i) (h2 : i ≤ x.t) : cellR l x.p i = x.k := by
  unfold cellR
  cases hf : l.find? fun r => decide (r.p = x.p ∧ r.f ≤ i ∧ i ≤ r.t) with
  | none =>
    have := List.find?_eq_none.1 hf x hx
    simp at this; omega
  | some y =>
    have hy := List.mem_of_find?_eq_some hf
    have hc := List.find?_some hf
    simp at hc
    rw [ap_one h hy hx hc.1 hc.2.1 hc.2.2 h1 h2]
    rfl
theorem cellR_none {l : List Rn} {p i : Int} (h : ∀ x, x ∈ l → ¬ (x.p = p ∧ x.f ≤ i ∧ i ≤ x.t)) : cellR l p i = 0 := by
  unfold cellR
  rw [List.find?_eq_none.2 (fun x hx => by simpa using fun h1 h2 => by have := h x hx; simp [h1, h2] at this; omega)]
  rfl
theorem cellR_some {l : List Rn} {p i : Int} (h : cellR l p i ≠ 0) : ∃ x, x ∈ l ∧ x.p = p ∧ x.f ≤ i ∧ i ≤ x.t ∧ x.k = cellR l p i := by
  unfold cellR at *
  cases hf : l.find? fun r => decide (r.p = p ∧ r.f ≤ i ∧ i ≤ r.t) with
  | none => rw [hf] at h; exact absurd rfl h
  | some y =>
    have hc := List.find?_some hf
    simp at hc
    exact ⟨y, List.mem_of_find?_eq_some hf, hc.1, hc.2.1, hc.2.2, rfl⟩
/-- By cases: p has something on i by one run, or nothing. -/
theorem cellR_cases {l : List Rn} (h : l.Pairwise Rn.apart) (p i : Int) : (∃ x, x ∈ l ∧ x.p = p ∧ x.f ≤ i ∧ i ≤ x.t ∧ cellR l p i = x.k) ∨ ((∀ x, x ∈ l → ¬ (x.p = p ∧ x.f ≤ i ∧ i ≤ x.t)) ∧ cellR l p i = 0) := by
  by_cases hx : ∃ x, x ∈ l ∧ x.p = p ∧ x.f ≤ i ∧ i ≤ x.t
  · obtain ⟨x, h1, rfl, h3, h4⟩ := hx
    exact Or.inl ⟨x, h1, rfl, h3, h4, cellR_mem h h1 h3 h4⟩
  · have h0 : ∀ x, x ∈ l → ¬ (x.p = p ∧ x.f ≤ i ∧ i ≤ x.t) := fun x hx1 hx2 => hx ⟨x, hx1, hx2.1, hx2.2.1, hx2.2.2⟩
    exact Or.inr ⟨h0, cellR_none h0⟩

/-- A run is as long as it can be. -/
def MaxRun (c : Int → Int → Int) (x : Rn) : Prop := x.fine ∧ (∀ i, x.f ≤ i → i ≤ x.t → c x.p i = x.k) ∧ c x.p (x.f - 1) ≠ x.k ∧ c x.p (x.t + 1) ≠ x.k
theorem WF.max {l : List Rn} (h : WF l) {x : Rn} (hx : x ∈ l) : MaxRun (cellR l) x := by
  have hf := h.ok x hx
  have hf' := hf
  unfold Rn.fine at hf'
  refine ⟨hf, fun i h1 h2 => cellR_mem h.ap hx h1 h2, fun he => ?_, fun he => ?_⟩
  · obtain ⟨y, hy, hp, h1, h2, hk⟩ := cellR_some (l := l) (p := x.p) (i := x.f - 1) (by omega)
    rcases ap_mem h.ap hx hy with rfl | ha
    · omega
    · obtain ⟨a1, a2⟩ := ha hp.symm
      have := a2 (by rw [hk, he])
      have := h.ok y hy; unfold Rn.fine at this; omega
  · obtain ⟨y, hy, hp, h1, h2, hk⟩ := cellR_some (l := l) (p := x.p) (i := x.t + 1) (by omega)
    rcases ap_mem h.ap hx hy with rfl | ha
    · omega
    · obtain ⟨a1, a2⟩ := ha hp.symm
      have := a2 (by rw [hk, he])
      have := h.ok y hy; unfold Rn.fine at this; omega
theorem WF.of_max {l : List Rn} (h : WF l) {x : Rn} (hx : MaxRun (cellR l) x) : x ∈ l := by
  obtain ⟨hf, h1, h2, h3⟩ := hx
  unfold Rn.fine at hf
  have hc := h1 x.f (by omega) (by omega)
  obtain ⟨y, hy, hp, y1, y2, hk⟩ := cellR_some (l := l) (p := x.p) (i := x.f) (by omega)
  rw [hc] at hk
  obtain ⟨_, g1, g2, g3⟩ := h.max hy
  have e1 : y.f = x.f := by
    by_cases e : y.f = x.f
    · exact e
    · have := g1 (x.f - 1) (by omega) (by omega)
      rw [hp, hk] at this; exact absurd this h2
  have e2 : y.t = x.t := by
    rcases Int.lt_trichotomy y.t x.t with e | e | e
    · have := h1 (y.t + 1) (by omega) (by omega)
      rw [hp, hk] at g3; exact absurd this g3
    · exact e
    · have := g1 (x.t + 1) (by omega) (by omega)
      rw [hp, hk] at this; exact absurd this h3
  have : y = x := by cases y; cases x; simp_all
  rw [← this]; exact hy

theorem strict_eq : ∀ (l m : List Rn), l.Pairwise Rn.lt → m.Pairwise Rn.lt → (∀ x, x ∈ l ↔ x ∈ m) → l = m
  | [], [], _, _, _ => rfl
  | [], b :: m, _, _, h => absurd ((h b).2 List.mem_cons_self) (by simp)
  | a :: l, [], _, _, h => absurd ((h a).1 List.mem_cons_self) (by simp)
  | a :: l, b :: m, hl, hm, h => by
    obtain ⟨l1, l2⟩ := List.pairwise_cons.1 hl
    obtain ⟨m1, m2⟩ := List.pairwise_cons.1 hm
    have hab : a = b := by
      rcases List.mem_cons.1 ((h a).1 List.mem_cons_self) with e | e
      · exact e
      · rcases List.mem_cons.1 ((h b).2 List.mem_cons_self) with e' | e'
        · exact e'.symm
        · have x1 := m1 a e
          have x2 := l1 b e'
          unfold Rn.lt at x1 x2; omega
    subst hab
    have : l = m := strict_eq l m l2 m2 fun x => by
      have hx := h x
      simp only [List.mem_cons] at hx
      constructor
      · intro hxl
        rcases hx.1 (Or.inr hxl) with e | e
        · subst e; have := l1 _ hxl; unfold Rn.lt at this; omega
        · exact e
      · intro hxm
        rcases hx.2 (Or.inr hxm) with e | e
        · subst e; have := m1 _ hxm; unfold Rn.lt at this; omega
        · exact e
    rw [this]
theorem WF.strict {l : List Rn} (h : WF l) : l.Pairwise Rn.lt := by
  obtain ⟨hs, ho, ha⟩ := h
  unfold Srt at hs
  have hb := hs.and ha
  refine List.Pairwise.imp_of_mem ?_ hb
  intro a b hma hmb hab
  obtain ⟨h1, h2⟩ := hab
  have fa := ho a hma
  have fb := ho b hmb
  unfold Rn.fine at fa fb
  unfold Rn.lt at *
  by_cases hp : a.p = b.p
  · have := (h2 hp).1; omega
  · omega
/-- A list in good form is told by what the processes have on the positions. -/
theorem WF.ext {l m : List Rn} (hl : WF l) (hm : WF m) (h : ∀ p i, cellR l p i = cellR m p i) : l = m := by
  have e : cellR l = cellR m := funext fun p => funext fun i => h p i
  exact strict_eq l m hl.strict hm.strict fun x => ⟨fun hx => hm.of_max (e ▸ hl.max hx), fun hx => hl.of_max (e ▸ hm.max hx)⟩

theorem insR_perm (l : List Rn) (r : Rn) : (insR l r).Perm (r :: l) := by
  unfold insR insAt
  have := List.perm_middle (a := r) (l₁ := l.take (posR l r)) (l₂ := l.drop (posR l r))
  rw [List.take_append_drop] at this
  exact this

/-- What is left of r without the hole. -/
def pieces (h r : Rn) : List Rn :=
  if r.p ≠ h.p ∨ meetsB r.f r.t h.f h.t = false then [r] else
  (if r.f < h.f then [⟨r.p, r.k, r.f, h.f - 1⟩] else []) ++ (if h.t < r.t then [⟨r.p, r.k, h.t + 1, r.t⟩] else [])
theorem cutS_perm (h : Rn) (rest : List Rn) (r : Rn) : (cutS h rest r).Perm (pieces h r ++ rest) := by
  unfold cutS pieces
  split
  · exact insR_perm rest r
  · dsimp only
    split <;> split
    · refine (insR_perm _ _).trans (List.Perm.trans ?_ (List.Perm.swap _ _ _))
      exact List.Perm.cons _ (insR_perm _ _)
    · exact insR_perm _ _
    · exact insR_perm _ _
    · exact List.Perm.refl _
theorem cutR_perm (l : List Rn) (h : Rn) : (cutR l h).Perm (l.flatMap (pieces h)) := by
  have : ∀ (l rest : List Rn), (l.foldl (cutS h) rest).Perm (l.flatMap (pieces h) ++ rest) := fun l => by
    induction l with
    | nil => exact fun rest => List.Perm.refl _
    | cons a t ih =>
      intro rest
      refine (ih _).trans ?_
      rw [List.flatMap_cons, List.append_assoc]
      refine (List.Perm.append_left _ (cutS_perm h rest a)).trans ?_
      rw [← List.append_assoc, ← List.append_assoc]
      exact List.Perm.append_right _ List.perm_append_comm
  have := this l []
  rwa [List.append_nil] at this
theorem mem_pieces {h r x : Rn} (hf : r.f ≤ r.t) : x ∈ pieces h r → x.p = r.p ∧ x.k = r.k ∧ r.f ≤ x.f ∧ x.f ≤ x.t ∧ x.t ≤ r.t ∧ (x.p = h.p → x.t < h.f ∨ h.t < x.f) := by
  intro hx
  unfold pieces at hx
  split at hx
  · rename_i hc
    simp at hx; subst hx
    refine ⟨rfl, rfl, Int.le_refl _, hf, Int.le_refl _, fun hp => ?_⟩
    rcases hc with hc | hc
    · exact absurd hp hc
    · simp [meetsB] at hc; omega
  · rename_i hc
    simp [meetsB] at hc
    rw [List.mem_append] at hx
    rcases hx with hx | hx
    · split at hx
      · simp at hx; subst hx; simp; omega
      · cases hx
    · split at hx
      · simp at hx; subst hx; simp; omega
      · cases hx
theorem pieces_cov {h r : Rn} {p i : Int} (hr : r.p = p ∧ r.f ≤ i ∧ i ≤ r.t) (hn : ¬ (p = h.p ∧ h.f ≤ i ∧ i ≤ h.t)) : ∃ x, x ∈ pieces h r ∧ x.p = p ∧ x.f ≤ i ∧ i ≤ x.t := by
  obtain ⟨rfl, h1, h2⟩ := hr
  unfold pieces
  split
  · exact ⟨r, by simp, rfl, h1, h2⟩
  · rename_i hc
    simp at hc
    by_cases hlt : i < h.f
    · exact ⟨⟨r.p, r.k, r.f, h.f - 1⟩, by rw [if_pos (by omega)]; simp, rfl, h1, by simp only; omega⟩
    · exact ⟨⟨r.p, r.k, h.t + 1, r.t⟩, by rw [if_pos (c := h.t < r.t) (by omega)]; simp, rfl, by simp only; omega, h2⟩
theorem cutR_ap {l : List Rn} {h : Rn} (hl : ∀ x, x ∈ l → x.fine) (ha : l.Pairwise Rn.apart) (hh : h.f ≤ h.t) : (cutR l h).Pairwise Rn.apart := by
  rw [(cutR_perm l h).pairwise_iff (fun h => h.symm)]
  rw [List.pairwise_flatMap]
  refine ⟨fun r hr => ?_, ?_⟩
  · have hf := hl r hr
    unfold Rn.fine at hf
    unfold pieces
    split
    · simp
    · split <;> split <;> simp
      intro _
      exact ⟨by simp only; omega, fun _ => by simp only; omega⟩
  · refine List.Pairwise.imp_of_mem ?_ ha
    intro a b hma hmb hab x hx y hy hp
    have fa := hl a hma
    have fb := hl b hmb
    unfold Rn.fine at fa fb
    have mx := mem_pieces (by omega) hx
    have my := mem_pieces (by omega) hy
    have := hab (by rw [← mx.1, ← my.1]; exact hp)
    refine ⟨by omega, fun hk => ?_⟩
    have := this.2 (by rw [← mx.2.1, ← my.2.1]; exact hk)
    omega
theorem cutR_fine {l : List Rn} {h : Rn} (hl : ∀ x, x ∈ l → x.fine) : ∀ x, x ∈ cutR l h → x.fine ∧ (x.p = h.p → x.t < h.f ∨ h.t < x.f) := fun x hx => by
  rw [(cutR_perm l h).mem_iff, List.mem_flatMap] at hx
  obtain ⟨r, hr, hx⟩ := hx
  have hf := hl r hr
  unfold Rn.fine at hf
  have := mem_pieces (by omega) hx
  refine ⟨?_, this.2.2.2.2.2⟩
  unfold Rn.fine
  rw [this.2.1]; omega
theorem cellR_cut {l : List Rn} {h : Rn} (hl : ∀ x, x ∈ l → x.fine) (ha : l.Pairwise Rn.apart) (hh : h.f ≤ h.t) (p i : Int) : cellR (cutR l h) p i = if p = h.p ∧ h.f ≤ i ∧ i ≤ h.t then 0 else cellR l p i := by
  have hac := cutR_ap hl ha hh
  rcases cellR_cases hac p i with ⟨x, hx, hp, h1, h2, hc⟩ | ⟨hn, hc⟩
  · have hno := (cutR_fine hl x hx).2
    rw [if_neg (fun hh => by have := hno (by rw [hp]; exact hh.1); omega), hc]
    rw [(cutR_perm l h).mem_iff, List.mem_flatMap] at hx
    obtain ⟨r, hr, hx⟩ := hx
    have hf := hl r hr
    unfold Rn.fine at hf
    have m := mem_pieces (by omega) hx
    rw [← hp, m.1, m.2.1]
    exact (cellR_mem ha hr (by omega) (by omega)).symm
  · rw [hc]
    split
    · rfl
    · rename_i hn2
      symm
      refine cellR_none fun r hr hcov => ?_
      obtain ⟨x, hx, hx2⟩ := pieces_cov hcov hn2
      exact hn x (by rw [(cutR_perm l h).mem_iff, List.mem_flatMap]; exact ⟨r, hr, hx⟩) hx2

/-- o ends just ahead of r; o begins just behind it: for one process and kind. -/
def Rn.isL (r o : Rn) : Prop := o.p = r.p ∧ o.k = r.k ∧ o.t + 1 = r.f
def Rn.isR (r o : Rn) : Prop := o.p = r.p ∧ o.k = r.k ∧ r.t + 1 = o.f
theorem contB_iff (r o : Rn) : contB o.p o.k o.f o.t r.p r.k r.f r.t = true ↔ r.isL o ∨ r.isR o := by
  simp only [contB, Rn.isL, Rn.isR, Bool.and_eq_true, Bool.or_eq_true, decide_eq_true_eq]
  constructor
  · rintro ⟨⟨h1, h2⟩, h3 | h3⟩
    · exact Or.inl ⟨h1, h2, h3⟩
    · exact Or.inr ⟨h1, h2, h3⟩
  · rintro (⟨h1, h2, h3⟩ | ⟨h1, h2, h3⟩)
    · exact ⟨⟨h1, h2⟩, Or.inl h3⟩
    · exact ⟨⟨h1, h2⟩, Or.inr h3⟩
def contT (r o : Rn) : Bool := contB o.p o.k o.f o.t r.p r.k r.f r.t
/-- What stands behind some rounds of join. -/
structure JI (r : Rn) (pre : List Rn) (s : List Rn × Rn) : Prop where
  perm : s.1.Perm (pre.filter fun o => !contT r o)
  p : s.2.p = r.p
  k : s.2.k = r.k
  f : (s.2.f = r.f ∧ ∀ o, o ∈ pre → ¬ r.isL o) ∨ (∃ o, o ∈ pre ∧ r.isL o ∧ s.2.f = o.f)
  t : (s.2.t = r.t ∧ ∀ o, o ∈ pre → ¬ r.isR o) ∨ (∃ o, o ∈ pre ∧ r.isR o ∧ s.2.t = o.t)
theorem JI.step {r : Rn} {pre : List Rn} {s : List Rn × Rn} (h : JI r pre s) {o : Rn} (hr : r.f ≤ r.t) (ho : o.f ≤ o.t) (hpre : ∀ x, x ∈ pre → x.f ≤ x.t ∧ x.apart o) : JI r (pre ++ [o]) (joinS s o) := by
  have hsf : s.2.f ≤ r.f := by
    rcases h.f with ⟨e, _⟩ | ⟨x, hx, hL, e⟩
    · omega
    · have := hpre x hx; unfold Rn.isL at hL; omega
  have hst : r.t ≤ s.2.t := by
    rcases h.t with ⟨e, _⟩ | ⟨x, hx, hL, e⟩
    · omega
    · have := hpre x hx; unfold Rn.isR at hL; omega
  have hcont : contB o.p o.k o.f o.t s.2.p s.2.k s.2.f s.2.t = contT r o := by
    rw [Bool.eq_iff_iff, contB_iff, contT, contB_iff]
    constructor
    · rintro (⟨h1, h2, h3⟩ | ⟨h1, h2, h3⟩)
      · rw [h.p] at h1; rw [h.k] at h2
        rcases h.f with ⟨e, _⟩ | ⟨x, hx, hL, e⟩
        · exact Or.inl ⟨h1, h2, by omega⟩
        · have := (hpre x hx).2 (by rw [hL.1, h1])
          have := this.2 (by rw [hL.2.1, h2])
          omega
      · rw [h.p] at h1; rw [h.k] at h2
        rcases h.t with ⟨e, _⟩ | ⟨x, hx, hL, e⟩
        · exact Or.inr ⟨h1, h2, by omega⟩
        · have := (hpre x hx).2 (by rw [hL.1, h1])
          have := this.2 (by rw [hL.2.1, h2])
          omega
    · rintro (⟨h1, h2, h3⟩ | ⟨h1, h2, h3⟩)
      · refine Or.inl ⟨by rw [h.p]; exact h1, by rw [h.k]; exact h2, ?_⟩
        rcases h.f with ⟨e, _⟩ | ⟨x, hx, hL, e⟩
        · omega
        · have := (hpre x hx).2 (by rw [hL.1, h1])
          have hL3 := hL.2.2
          have := (hpre x hx).1
          omega
      · refine Or.inr ⟨by rw [h.p]; exact h1, by rw [h.k]; exact h2, ?_⟩
        rcases h.t with ⟨e, _⟩ | ⟨x, hx, hL, e⟩
        · omega
        · have := (hpre x hx).2 (by rw [hL.1, h1])
          have hL3 := hL.2.2
          have := (hpre x hx).1
          omega
  unfold joinS
  rw [hcont]
  cases hc : contT r o
  · rw [if_pos rfl]
    have hno : ¬ (r.isL o ∨ r.isR o) := fun hh => by rw [← contB_iff] at hh; unfold contT at hc; rw [hh] at hc; cases hc
    refine ⟨?_, h.p, h.k, ?_, ?_⟩
    · rw [List.filter_append]
      simp only [List.filter_cons, hc, Bool.not_false, if_true, List.filter_nil]
      refine (insR_perm _ _).trans ?_
      exact (List.Perm.cons _ h.perm).trans (List.perm_append_singleton _ _).symm
    · rcases h.f with ⟨e, hn⟩ | ⟨x, hx, hL, e⟩
      · exact Or.inl ⟨e, fun y hy => by rcases List.mem_append.1 hy with hy | hy; exact hn y hy; simp at hy; subst hy; exact fun hh => hno (Or.inl hh)⟩
      · exact Or.inr ⟨x, List.mem_append_left _ hx, hL, e⟩
    · rcases h.t with ⟨e, hn⟩ | ⟨x, hx, hL, e⟩
      · exact Or.inl ⟨e, fun y hy => by rcases List.mem_append.1 hy with hy | hy; exact hn y hy; simp at hy; subst hy; exact fun hh => hno (Or.inr hh)⟩
      · exact Or.inr ⟨x, List.mem_append_left _ hx, hL, e⟩
  · rw [if_neg (by simp)]
    have hyes : r.isL o ∨ r.isR o := by rw [← contB_iff]; exact hc
    refine ⟨?_, h.p, h.k, ?_, ?_⟩
    · rw [List.filter_append]
      simp only [List.filter_cons, hc, Bool.not_true, Bool.false_eq_true, if_false, List.filter_nil, List.append_nil]
      exact h.perm
    · rcases hyes with hL | hR
      · refine Or.inr ⟨o, by simp, hL, ?_⟩
        unfold Rn.isL at hL
        simp only
        rcases h.f with ⟨e, hn⟩ | ⟨x, hx, hL2, e⟩
        · omega
        · have := (hpre x hx).2 (by rw [hL2.1, hL.1])
          have h3 := hL2.2.2
          have := (hpre x hx).1
          omega
      · unfold Rn.isR at hR
        have e1 : min s.2.f o.f = s.2.f := by omega
        simp only [e1]
        rcases h.f with ⟨e, hn⟩ | ⟨x, hx, hL2, e⟩
        · exact Or.inl ⟨e, fun y hy => by rcases List.mem_append.1 hy with hy | hy; exact hn y hy; simp at hy; subst hy; exact fun hh => by unfold Rn.isL at hh; omega⟩
        · exact Or.inr ⟨x, List.mem_append_left _ hx, hL2, e⟩
    · rcases hyes with hL | hR
      · unfold Rn.isL at hL
        have e1 : max s.2.t o.t = s.2.t := by omega
        simp only [e1]
        rcases h.t with ⟨e, hn⟩ | ⟨x, hx, hL2, e⟩
        · exact Or.inl ⟨e, fun y hy => by rcases List.mem_append.1 hy with hy | hy; exact hn y hy; simp at hy; subst hy; exact fun hh => by unfold Rn.isR at hh; omega⟩
        · exact Or.inr ⟨x, List.mem_append_left _ hx, hL2, e⟩
      · refine Or.inr ⟨o, by simp, hR, ?_⟩
        unfold Rn.isR at hR
        simp only
        rcases h.t with ⟨e, hn⟩ | ⟨x, hx, hL2, e⟩
        · omega
        · have := (hpre x hx).2 (by rw [hL2.1, hR.1])
          have h3 := hL2.2.2
          have := (hpre x hx).1
          omega
theorem JI.all {l : List Rn} {r : Rn} (hl : ∀ x, x ∈ l → x.fine) (ha : l.Pairwise Rn.apart) (hr : r.f ≤ r.t) : JI r l (l.foldl joinS ([], r)) := by
  have : ∀ (suf pre : List Rn) (s : List Rn × Rn), JI r pre s → (∀ x, x ∈ pre ++ suf → x.fine) → (pre ++ suf).Pairwise Rn.apart → JI r (pre ++ suf) (suf.foldl joinS s) := fun suf => by
    induction suf with
    | nil => intro pre s h _ _; simpa using h
    | cons o t ih =>
      intro pre s h hf hp
      have e : pre ++ o :: t = (pre ++ [o]) ++ t := by simp
      rw [e] at hf hp ⊢
      refine ih (pre ++ [o]) _ (h.step hr ?_ ?_) hf hp
      · have := hf o (by simp); unfold Rn.fine at this; omega
      · intro x hx
        have := hf x (by simp [hx])
        unfold Rn.fine at this
        refine ⟨by omega, ?_⟩
        rw [List.append_assoc, List.pairwise_append] at hp
        exact hp.2.2 x hx o (by simp)
  have := this l [] ([], r) ⟨List.Perm.refl _, rfl, rfl, Or.inl ⟨rfl, by simp⟩, Or.inl ⟨rfl, by simp⟩⟩ (by simpa using hl) (by simpa using ha)
  simpa using this

/-- A lock joined to a list that has nothing of the process on its positions. -/
theorem joinR_all {l : List Rn} {r : Rn} (hl : ∀ x, x ∈ l → x.fine) (ha : l.Pairwise Rn.apart) (hr : r.fine) (hd : ∀ x, x ∈ l → x.p = r.p → x.t < r.f ∨ r.t < x.f) :
    WF (joinR l r) ∧ ∀ p i, cellR (joinR l r) p i = if p = r.p ∧ r.f ≤ i ∧ i ≤ r.t then r.k else cellR l p i := by
  have hrf := hr
  unfold Rn.fine at hrf
  have J := JI.all hl ha (r := r) (by omega)
  obtain ⟨s, hs⟩ : ∃ s, s = l.foldl joinS ([], r) := ⟨_, rfl⟩
  have ej : joinR l r = insR s.1 s.2 := by rw [hs]; rfl
  rw [← hs] at J
  have hperm : (joinR l r).Perm (s.2 :: l.filter fun o => !contT r o) := by
    rw [ej]; exact (insR_perm _ _).trans (List.Perm.cons _ J.perm)
  have hmem : ∀ x, x ∈ joinR l r ↔ x = s.2 ∨ (x ∈ l ∧ ¬ (r.isL x ∨ r.isR x)) := fun x => by
    rw [hperm.mem_iff, List.mem_cons, List.mem_filter, ← contB_iff]
    simp [contT]
  -- what the joined run is
  have hfl : (s.2.f = r.f ∧ ∀ o, o ∈ l → ¬ r.isL o) ∨ (∃ o, o ∈ l ∧ o.p = r.p ∧ o.k = r.k ∧ o.t + 1 = r.f ∧ s.2.f = o.f ∧ 0 ≤ o.f ∧ o.f ≤ o.t) := by
    rcases J.f with h | ⟨o, ho, hL, e⟩
    · exact Or.inl h
    · have := hl o ho; unfold Rn.fine at this
      exact Or.inr ⟨o, ho, hL.1, hL.2.1, hL.2.2, e, by omega, by omega⟩
  have hfr : (s.2.t = r.t ∧ ∀ o, o ∈ l → ¬ r.isR o) ∨ (∃ o, o ∈ l ∧ o.p = r.p ∧ o.k = r.k ∧ r.t + 1 = o.f ∧ s.2.t = o.t ∧ o.t ≤ 63 ∧ o.f ≤ o.t) := by
    rcases J.t with h | ⟨o, ho, hL, e⟩
    · exact Or.inl h
    · have := hl o ho; unfold Rn.fine at this
      exact Or.inr ⟨o, ho, hL.1, hL.2.1, hL.2.2, e, by omega, by omega⟩
  have hsfine : s.2.fine := by
    unfold Rn.fine
    rw [J.k]
    rcases hfl with ⟨e, _⟩ | ⟨o, _, _, _, _, e, _, _⟩ <;> rcases hfr with ⟨e', _⟩ | ⟨o', _, _, _, _, e', _, _⟩ <;> omega
  have hap : ∀ x, x ∈ l → ¬ (r.isL x ∨ r.isR x) → s.2.apart x := fun x hx hno hp => by
    rw [J.p] at hp
    have hxf := hl x hx
    unfold Rn.fine at hxf
    have hdx := hd x hx hp.symm
    refine ⟨?_, fun hk => ?_⟩
    · rcases hfl with ⟨e, _⟩ | ⟨o, ho, hop, hok, h3, e, _, _⟩ <;> rcases hfr with ⟨e', _⟩ | ⟨o', ho', hop', hok', h3', e', _, _⟩
      · omega
      · have := ap_mem ha hx ho'
        rcases this with rfl | hh
        · exact absurd (Or.inr ⟨hop', hok', h3'⟩) hno
        · have := (hh (by omega)).1; omega
      · have := ap_mem ha hx ho
        rcases this with rfl | hh
        · exact absurd (Or.inl ⟨hop, hok, h3⟩) hno
        · have := (hh (by omega)).1; omega
      · have h1 := ap_mem ha hx ho
        have h2 := ap_mem ha hx ho'
        rcases h1 with rfl | hh
        · exact absurd (Or.inl ⟨hop, hok, h3⟩) hno
        · rcases h2 with rfl | hh'
          · exact absurd (Or.inr ⟨hop', hok', h3'⟩) hno
          · have := (hh (by omega)).1; have := (hh' (by omega)).1; omega
    · rw [J.k] at hk
      constructor
      · rcases hfr with ⟨e', hn⟩ | ⟨o', ho', hop', hok', h3', e', _, _⟩
        · intro h; exact hno (Or.inr ⟨hp.symm, hk.symm, by omega⟩)
        · rcases ap_mem ha ho' hx with rfl | hh
          · exact absurd (Or.inr ⟨hop', hok', h3'⟩) hno
          · have := (hh (by omega)).2 (by omega); omega
      · rcases hfl with ⟨e, hn⟩ | ⟨o, ho, hop, hok, h3, e, _, _⟩
        · intro h; exact hno (Or.inl ⟨hp.symm, hk.symm, by omega⟩)
        · rcases ap_mem ha ho hx with rfl | hh
          · exact absurd (Or.inl ⟨hop, hok, h3⟩) hno
          · have := (hh (by omega)).2 (by omega); omega
  have hapj : (joinR l r).Pairwise Rn.apart := by
    rw [hperm.pairwise_iff (fun h => h.symm), List.pairwise_cons]
    refine ⟨fun x hx => ?_, List.Pairwise.filter _ ha⟩
    rw [List.mem_filter] at hx
    exact hap x hx.1 (by rw [← contB_iff]; have := hx.2; simpa [contT] using this)
  refine ⟨⟨?_, fun x hx => ?_, hapj⟩, fun p i => ?_⟩
  · have hS : Srt s.1 := by
      rw [hs]
      have : ∀ (l : List Rn) (s : List Rn × Rn), Srt s.1 → Srt (l.foldl joinS s).1 := fun l => by
        induction l with
        | nil => exact fun _ h => h
        | cons a t ih => exact fun s h => ih _ (by unfold joinS; split; exact h.ins a; exact h)
      exact this l ([], r) List.Pairwise.nil
    rw [ej]; exact hS.ins _
  · rcases (hmem x).1 hx with rfl | hx
    · exact hsfine
    · exact hl x hx.1
  · have hin : s.2 ∈ joinR l r := (hmem s.2).2 (Or.inl rfl)
    by_cases hc : p = r.p ∧ s.2.f ≤ i ∧ i ≤ s.2.t
    · obtain ⟨rfl, h1, h2⟩ := hc
      have e1 := cellR_mem hapj hin h1 h2
      rw [J.p, J.k] at e1
      rw [e1]
      by_cases hri : r.f ≤ i ∧ i ≤ r.t
      · rw [if_pos ⟨rfl, hri⟩]
      · rw [if_neg (fun h => hri h.2)]
        by_cases hlt : i < r.f
        · rcases hfl with ⟨e, _⟩ | ⟨o, ho, hop, hok, h3, e, _, _⟩
          · omega
          · have := cellR_mem ha ho (i := i) (by omega) (by omega)
            rw [hop, hok] at this; exact this.symm
        · rcases hfr with ⟨e, _⟩ | ⟨o, ho, hop, hok, h3, e, _, _⟩
          · omega
          · have := cellR_mem ha ho (i := i) (by omega) (by omega)
            rw [hop, hok] at this; exact this.symm
    · have hrs : s.2.f ≤ r.f ∧ r.t ≤ s.2.t := by
        rcases hfl with ⟨e, _⟩ | ⟨o, ho, hop, hok, h3, e, _, _⟩ <;> rcases hfr with ⟨e', _⟩ | ⟨o', ho', hop', hok', h3', e', _, _⟩ <;> omega
      rw [if_neg (fun h => hc ⟨h.1, by omega, by omega⟩)]
      rcases cellR_cases ha p i with ⟨x, hx, hp, h1, h2, he⟩ | ⟨hn, he⟩
      · rw [he]
        have hno : ¬ (r.isL x ∨ r.isR x) := fun hh => by
          rcases hh with hL | hR
          · rcases hfl with ⟨e, hn⟩ | ⟨o, ho, hop, hok, h3, e, _, _⟩
            · exact hn x hx hL
            · have := ap_one ha hx ho (by rw [hL.1, hop]) (i := x.t) (by have := hl x hx; unfold Rn.fine at this; omega) (by omega) (by have := hL.2.2; omega) (by have := hL.2.2; omega)
              subst this
              exact hc ⟨by rw [← hp]; exact hop, by omega, by omega⟩
          · rcases hfr with ⟨e, hn⟩ | ⟨o, ho, hop, hok, h3, e, _, _⟩
            · exact hn x hx hR
            · have := ap_one ha hx ho (by rw [hR.1, hop]) (i := x.f) (by omega) (by have := hl x hx; unfold Rn.fine at this; omega) (by have := hR.2.2; omega) (by have := hR.2.2; omega)
              subst this
              exact hc ⟨by rw [← hp]; exact hop, by omega, by omega⟩
        rw [← hp]
        exact cellR_mem hapj ((hmem x).2 (Or.inr ⟨hx, hno⟩)) h1 h2
      · rw [he]
        refine cellR_none fun x hx hcov => ?_
        rcases (hmem x).1 hx with rfl | hx
        · exact hc ⟨by rw [← J.p]; exact hcov.1.symm, hcov.2.1, hcov.2.2⟩
        · exact hn x hx.1 hcov

/-- A lock that comes or goes: the list stays in good form; p has it on its positions, and all else is as it was. -/
theorem setR_all {l : List Rn} (hl : WF l) {r : Rn} (h0 : 0 ≤ r.f) (h1 : r.f ≤ r.t) (h2 : r.t ≤ 63) (hk : r.k = 0 ∨ r.k = 1 ∨ r.k = 2) :
    WF (setR l r) ∧ ∀ p i, cellR (setR l r) p i = if p = r.p ∧ r.f ≤ i ∧ i ≤ r.t then r.k else cellR l p i := by
  have hac := cutR_ap (h := r) hl.ok hl.ap h1
  have hfc := cutR_fine (h := r) hl.ok
  have hcc := cellR_cut (h := r) hl.ok hl.ap h1
  unfold setR
  split
  · rename_i he
    refine ⟨⟨Srt.cutR l r, fun x hx => (hfc x hx).1, hac⟩, fun p i => ?_⟩
    rw [hcc, he]
  · rename_i he
    obtain ⟨w1, w2⟩ := joinR_all (r := r) (fun x hx => (hfc x hx).1) hac (by unfold Rn.fine; omega) (fun x hx hp => (hfc x hx).2 hp)
    refine ⟨w1, fun p i => ?_⟩
    rw [w2]
    split
    · rfl
    · rename_i hn
      rw [hcc, if_neg hn]
/-- All locks of a process go. -/
theorem without_all {l : List Rn} (hl : WF l) (q : Int) : WF (cutR l ⟨q, 0, 0, 63⟩) ∧ ∀ p i, cellR (cutR l ⟨q, 0, 0, 63⟩) p i = if p = q then 0 else cellR l p i := by
  have h1 : (Rn.mk q 0 0 63).f ≤ (Rn.mk q 0 0 63).t := by simp
  refine ⟨⟨Srt.cutR l _, fun x hx => (cutR_fine hl.ok x hx).1, cutR_ap hl.ok hl.ap h1⟩, fun p i => ?_⟩
  rw [cellR_cut hl.ok hl.ap h1]
  simp only
  by_cases hp : p = q
  · rw [if_pos hp]
    split
    · rfl
    · rename_i hn
      refine cellR_none fun x hx hcov => ?_
      have := hl.ok x hx; unfold Rn.fine at this
      exact hn ⟨hp, by omega, by omega⟩
  · rw [if_neg hp, if_neg (fun h => hp h.1)]
end Go.Proofs.Ytafgecmenadhdaa
