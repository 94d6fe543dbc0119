/- What a state of the model tells of itself is sound. -/
import Derived.Test.YtaicdjhblbobbaaGreatVEndsPure
namespace Go.Proofs.YtaicdjhblbobbaaGreat

/-- Of two runs of a list the earlier one stands ahead, they don't bite, and are not one. -/
structure PairOk (b a : Rn) : Prop where
  le : ¬ a.f < b.f
  pr : b.f = a.f → b.p < a.p
  ns : ¬ (a.f ≤ b.t ∧ b.f ≤ a.t ∧ (a.p = b.p ∨ a.k = 2 ∨ b.k = 2))
  jn : ¬ (a.p = b.p ∧ a.k = b.k ∧ b.t + 1 = a.f)
theorem sound_runs {s : DS} (h : s.Inv) (f : Int) : (s.runs f).length ≤ 12 ∧ (∀ (i : Nat) (a : Rn), (s.runs f)[i]? = some a → 0 ≤ a.f ∧ a.f ≤ a.t ∧ a.t ≤ 63 ∧ (a.k = 1 ∨ a.k = 2) ∧ 0 ≤ a.p ∧ a.p < 6) ∧
    ∀ (i j : Nat) (a b : Rn), (s.runs f)[i]? = some a → (s.runs f)[j]? = some b → j < i → PairOk b a := by
  unfold DS.runs
  split
  · have hw := h.wf f.toNat
    refine ⟨h.len _, fun i a ha => ?_, fun i j a b ha hb hji => ?_⟩
    · have hm := List.mem_of_getElem? ha
      have h1 := hw.ok a hm
      have h2 := mem_ps6.1 (live_mem (h.lv _ a hm))
      exact ⟨h1.1, h1.2.1, h1.2.2.1, h1.2.2.2, h2.1, h2.2⟩
    · have hma := List.mem_of_getElem? ha
      have hmb := List.mem_of_getElem? hb
      have hia : i < (s.R f.toNat).length := (List.getElem?_eq_some_iff.1 ha).1
      have hjb : j < (s.R f.toNat).length := (List.getElem?_eq_some_iff.1 hb).1
      have ea : (s.R f.toNat)[i] = a := (List.getElem?_eq_some_iff.1 ha).2
      have eb : (s.R f.toNat)[j] = b := (List.getElem?_eq_some_iff.1 hb).2
      have hlt : b.lt a := by rw [← ea, ← eb]; exact List.pairwise_iff_getElem.1 hw.strict j i hjb hia hji
      have hap : b.apart a := by rw [← ea, ← eb]; exact List.pairwise_iff_getElem.1 hw.ap j i hjb hia hji
      have hnb := h.nb _ a b hma hmb
      rw [Rn.not_bites] at hnb
      have fa := hw.ok a hma
      have fb := hw.ok b hmb
      unfold Rn.fine at fa fb
      unfold Rn.lt at hlt
      unfold Rn.apart at hap
      refine ⟨by omega, fun e => by omega, ?_, ?_⟩
      · rintro ⟨h1, h2, h3⟩
        by_cases hp : a.p = b.p
        · have := (hap hp.symm).1
          omega
        · refine hnb ⟨hp, h1, h2, ?_⟩
          unfold biteB
          rw [if_neg (by omega)]
          simp only [decide_eq_true_eq]
          rcases h3 with h3 | h3 | h3
          · exact absurd h3 hp
          · exact Or.inl h3
          · exact Or.inr h3
      · rintro ⟨h1, h2, h3⟩
        exact ((hap h1.symm).2 h2.symm).1 h3
  · exact ⟨by simp, fun i a ha => by simp at ha, fun i j a b ha => by simp at ha⟩
theorem sound_holds {s : DS} (h : s.Inv) (f : Int) : ∀ (i : Nat) (x : Hd), (s.holds f)[i]? = some x → 0 < x.ps.length ∧ (x.k = 1 ∨ x.k = 2) ∧ (x.k = 2 → (s.holds f).length = 1) := by
  unfold DS.holds
  split
  · intro i x hx
    rw [List.getElem?_map] at hx
    cases e : (s.W f.toNat)[i]? with
    | none => rw [e] at hx; cases hx
    | some y =>
      rw [e] at hx
      simp at hx
      subst hx
      have hm := List.mem_of_getElem? e
      obtain ⟨h1, h2, _⟩ := h.w _ y hm
      refine ⟨?_, h2, fun hk => ?_⟩
      · rw [DS.inUse_iff] at h1
        obtain ⟨p, hp, hh⟩ := h1
        exact List.length_pos_of_mem (DS.mem_users.2 ⟨hp, hh⟩)
      · rw [List.length_map]
        have hk : y.k = 2 := hk
        have hi : i < (s.W f.toNat).length := (List.getElem?_eq_some_iff.1 e).1
        have hall : ∀ j (hj : j < (s.W f.toNat).length), j = i := fun j hj => by
          have hb : ∀ z ∈ s.W f.toNat, biteB y.k z.k = true := fun z hz => by
            obtain ⟨_, hz2, _⟩ := h.w _ z hz
            unfold biteB
            rw [if_neg (by omega)]
            simp [hk]
          rcases Nat.lt_trichotomy j i with hlt | heq | hgt
          · have := (List.pairwise_iff_getElem.1 (h.wn f.toNat) j i hj hi hlt).2
            have e2 : (s.W f.toNat)[i] = y := (List.getElem?_eq_some_iff.1 e).2
            rw [e2, biteB_comm, hb _ (List.getElem_mem hj)] at this
            cases this
          · exact heq
          · have := (List.pairwise_iff_getElem.1 (h.wn f.toNat) i j hi hj hgt).2
            have e2 : (s.W f.toNat)[i] = y := (List.getElem?_eq_some_iff.1 e).2
            rw [e2, hb _ (List.getElem_mem hj)] at this
            cases this
        have h0 := hall 0 (by omega)
        have h1 : (s.W f.toNat).length ≤ 1 := by
          rcases Nat.lt_or_ge 1 (s.W f.toNat).length with hl | hl
          · have := hall 1 hl; omega
          · omega
        omega
  · intro i x hx
    simp at hx
/-- How often p waits. -/
def DS.times (s : DS) (p : Int) (j : Nat) : Nat := ((s.waiting.take j).filter fun x => decide (x = p)).length
theorem DS.times_succ (s : DS) (p : Int) (j : Nat) (hj : j < s.waiting.length) : s.times p (j + 1) = s.times p j + if s.waiting[j] = p then 1 else 0 := by
  unfold DS.times
  rw [List.take_add_one, List.getElem?_eq_getElem hj]
  simp only [Option.toList_some, List.filter_append, List.length_append, List.filter_cons, List.filter_nil]
  split <;> simp_all
theorem nodup_filter_one {l : List Int} (h : l.Nodup) (p : Int) : (l.filter fun x => decide (x = p)).length = if p ∈ l then 1 else 0 := by
  induction l with
  | nil => simp
  | cons a t ih =>
    have h' := List.nodup_cons.1 h
    have ih' := ih h'.2
    by_cases ha : a = p
    · subst ha
      simp only [List.filter_cons, decide_true, if_true, List.length_cons, ih', List.mem_cons, true_or]
      rw [if_neg h'.1]
    · have hm : p ∈ a :: t ↔ p ∈ t := by simp [List.mem_cons, Ne.symm ha]
      simp only [List.filter_cons, show decide (a = p) = false from decide_eq_false ha, Bool.false_eq_true, if_false, ih']
      by_cases hp : p ∈ t
      · rw [if_pos hp, if_pos (hm.2 hp)]
      · rw [if_neg hp, if_neg (fun x => hp (hm.1 x))]
theorem wait_nodup {s : DS} (h : s.Inv) : s.waiting.Nodup := by
  unfold DS.waiting List.Nodup
  rw [List.pairwise_map]
  exact h.qn
theorem DS.waits_mem {s : DS} {p : Int} : s.waits p = true ↔ p ∈ s.waiting := by
  rw [DS.waits_iff]
  unfold DS.waiting
  rw [List.mem_map]
theorem times_all {s : DS} (h : s.Inv) (p : Int) : s.times p s.waiting.length = if s.waits p = true then 1 else 0 := by
  unfold DS.times
  rw [List.take_length, nodup_filter_one (wait_nodup h)]
  simp only [DS.waits_mem]
/-- How many of the first p processes wait; how many are there and don't. -/
def DS.blockedN (s : DS) (p : Nat) : Nat := ((List.range p).filter fun (q : Nat) => decide (s.may (q : Int) = 2)).length
def DS.freeN (s : DS) (p : Nat) : Nat := ((List.range p).filter fun (q : Nat) => decide (s.may (q : Int) = 0)).length
theorem DS.blockedN_succ (s : DS) (p : Nat) : s.blockedN (p + 1) = s.blockedN p + if s.may (p : Int) = 2 then 1 else 0 := by
  unfold DS.blockedN
  rw [List.range_succ, List.filter_append, List.length_append]
  simp only [List.filter_cons, List.filter_nil]
  split <;> simp_all
theorem DS.freeN_succ (s : DS) (p : Nat) : s.freeN (p + 1) = s.freeN p + if s.may (p : Int) = 0 then 1 else 0 := by
  unfold DS.freeN
  rw [List.range_succ, List.filter_append, List.length_append]
  simp only [List.filter_cons, List.filter_nil]
  split <;> simp_all
theorem may_two {s : DS} (h : s.Inv) {p : Int} : s.may p = 2 ↔ p ∈ s.waiting := by
  rw [← DS.waits_mem]
  unfold DS.may
  constructor
  · intro hm
    split at hm
    · cases hm
    · split at hm
      · rename_i hw; exact hw
      · cases hm
  · intro hw
    obtain ⟨a, ha, hap⟩ := DS.waits_iff.1 hw
    have hl := (h.q a ha).1.l
    rw [hap] at hl
    rw [if_neg (by simp [hl]), if_pos hw]
theorem sound_end {s : DS} (h : s.Inv) : s.blockedN 6 = s.waiting.length ∧ (s.blockedN 6 = 0 ∨ 0 < s.freeN 6) := by
  have hb : s.blockedN 6 = s.waiting.length := by
    have hle1 : s.waiting.length ≤ s.blockedN 6 := by
      have : s.waiting.length ≤ (((List.range 6).filter fun (q : Nat) => decide (s.may (q : Int) = 2)).map fun (q : Nat) => (q : Int)).length := by
        refine nodup_le _ _ (wait_nodup h) fun x hx => ?_
        have hm := (may_two h).2 hx
        unfold DS.waiting at hx
        rw [List.mem_map] at hx
        obtain ⟨a, ha, rfl⟩ := hx
        have hp := mem_ps6.1 (live_mem (h.q a ha).1.l)
        rw [List.mem_map]
        exact ⟨a.p.toNat, List.mem_filter.2 ⟨List.mem_range.2 (by omega), by rw [decide_eq_true_eq, show ((a.p.toNat : Nat) : Int) = a.p by omega]; exact hm⟩, by omega⟩
      rw [List.length_map] at this
      exact this
    have hle2 : s.blockedN 6 ≤ s.waiting.length := by
      have : (((List.range 6).filter fun (q : Nat) => decide (s.may (q : Int) = 2)).map fun (q : Nat) => (q : Int)).length ≤ s.waiting.length := by
        refine nodup_le _ _ ?_ fun x hx => ?_
        · unfold List.Nodup
          rw [List.pairwise_map]
          refine List.Pairwise.filter _ ?_
          exact List.Pairwise.imp (fun hab e => by omega) List.pairwise_lt_range
        · rw [List.mem_map] at hx
          obtain ⟨q, hq, rfl⟩ := hx
          rw [List.mem_filter, decide_eq_true_eq] at hq
          exact (may_two h).1 hq.2
      rw [List.length_map] at this
      exact this
    omega
  refine ⟨hb, ?_⟩
  by_cases hz : s.waiting = []
  · left; rw [hb, hz]; rfl
  · right
    have hq : s.Q ≠ [] := fun e => hz (by unfold DS.waiting; rw [e]; rfl)
    obtain ⟨p, hl, hw⟩ := h.someone hq
    have hp := mem_ps6.1 (live_mem hl)
    unfold DS.freeN
    refine List.length_pos_of_mem (a := p.toNat) (List.mem_filter.2 ⟨List.mem_range.2 (by omega), ?_⟩)
    rw [decide_eq_true_eq, show ((p.toNat : Nat) : Int) = p by omega]
    unfold DS.may
    rw [if_neg (by simp [hl]), if_neg (by simp [hw])]
theorem DS.times_le (s : DS) (p : Int) (j : Nat) : s.times p j ≤ j := by
  unfold DS.times
  exact Nat.le_trans (List.length_filter_le _ _) (by rw [List.length_take]; omega)
theorem DS.blockedN_le (s : DS) (p : Nat) : s.blockedN p ≤ p := by
  unfold DS.blockedN
  exact Nat.le_trans (List.length_filter_le _ _) (by simp)
theorem DS.freeN_le (s : DS) (p : Nat) : s.freeN p ≤ p := by
  unfold DS.freeN
  exact Nat.le_trans (List.length_filter_le _ _) (by simp)
/-- The three ways in which a process stands. -/
theorem may_cases (s : DS) (p : Int) : (s.may p = 0 ∧ s.stateE p = 5) ∨ (s.may p = 1 ∧ s.stateE p = 1) ∨ (s.may p = 2 ∧ s.stateE p = 2) := by
  unfold DS.stateE
  have : s.may p = 1 ∨ s.may p = 2 ∨ s.may p = 0 := by
    unfold DS.may
    split
    · exact Or.inl rfl
    · split
      · exact Or.inr (Or.inl rfl)
      · exact Or.inr (Or.inr rfl)
  rcases this with h | h | h <;> simp [h]
def allFds : List (Int × Int) := ps6.flatMap fun p => ds5.map fun d => (p, d)
/-- No more locks of a whole file than descriptors. -/
theorem hold_le {s : DS} (h : s.Inv) (f : Int) : (s.holds f).length ≤ 30 := by
  unfold DS.holds
  split
  · rw [List.length_map]
    have hn : ((s.W f.toNat).map fun w => ((w.o : Nat) : Int)).Nodup := by
      unfold List.Nodup
      rw [List.pairwise_map]
      exact List.Pairwise.imp (fun hab e => hab.1 (by omega)) (h.wn f.toNat)
    have := nodup_le _ (allFds.map fun x => match s.F x.1 x.2 with | some o => ((o : Nat) : Int) | none => -1) hn (fun x hx => by
      rw [List.mem_map] at hx
      obtain ⟨y, hy, rfl⟩ := hx
      obtain ⟨h1, _⟩ := h.w _ y hy
      rw [DS.inUse_iff] at h1
      obtain ⟨p, hp, hh⟩ := h1
      rw [DS.has_iff] at hh
      obtain ⟨d, hd, hF⟩ := hh
      rw [List.mem_map]
      exact ⟨(p, d), List.mem_flatMap.2 ⟨p, hp, List.mem_map.2 ⟨d, hd, rfl⟩⟩, by simp [hF]⟩)
    rw [List.length_map, List.length_map] at this
    exact this
  · simp
end Go.Proofs.YtaicdjhblbobbaaGreat
