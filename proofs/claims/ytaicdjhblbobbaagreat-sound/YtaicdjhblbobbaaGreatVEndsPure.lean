/- Killing those that do not wait, one after the other, in the model. -/
import Derived.Test.YtaicdjhblbobbaaGreatGScene
namespace Go.Proofs.YtaicdjhblbobbaaGreat

theorem settle_L (s : DS) : s.settle.1.L = s.L := by
  refine DS.settleN_keeps (P := fun t => t.L = s.L) ?_ ?_ _ _ rfl
  · intro t i a ht _ _
    rw [DS.take_L]; exact ht
  · intro t i a ht _ _ _
    exact ht
theorem liveB_kill {L : Nat → Bool} {p q : Int} (hp : liveB L p = true) : liveB (updL L p.toNat false) q = (liveB L q && decide (q ≠ p)) := by
  unfold liveB updL at *
  simp only [Bool.and_eq_true, decide_eq_true_eq] at hp
  by_cases h : q = p
  · subst h
    simp
  · simp only [h, ne_eq, not_false_eq_true, decide_true, Bool.and_true]
    by_cases hq : 0 ≤ q
    · rw [if_neg (by omega)]
    · simp [hq]
structure Killed (s : DS) (p : Int) (t : DS) (r : Rp) : Prop where
  inv : t.Inv
  e : r.e = 0
  n : r.n = 0
  len : s.waiting.length = t.waiting.length + r.d.length
  was : ∀ (i : Nat) (d : Dn), r.d[i]? = some d → d.p ∈ s.waiting
  live : ∀ q, liveB t.L q = (liveB s.L q && decide (q ≠ p))
  waits : ∀ q, t.waits q = true → s.waits q = true
theorem killed {s : DS} (h : s.Inv) {p : Int} (hl : liveB s.L p = true) (hw : s.waits p = false) : Killed s p (s.step (.kill p)).1 (s.step (.kill p)).2 := by
  have hinv := h.kill p
  have e : s.kill p = (s.gone p).settled := by unfold DS.kill; rw [if_neg (by simp [hl])]
  simp only [DS.step]
  rw [e] at hinv ⊢
  have hQ : (s.gone p).Q = s.Q := by
    show s.Q.filter (fun a => decide (a.p ≠ p)) = s.Q
    rw [List.filter_eq_self]
    intro a ha
    simpa using DS.not_waits hw ha
  have hperm := DS.settleN_perm (s.gone p).Q.length (s.gone p)
  rw [hQ] at hperm
  have hperm' : ((s.gone p).settle.1.Q.map (·.p) ++ (s.gone p).settle.2.map (·.p)).Perm (s.Q.map (·.p)) := by
    unfold DS.settle
    rw [hQ]
    exact hperm
  refine ⟨hinv, rfl, rfl, ?_, ?_, ?_, ?_⟩
  · have := hperm'.length_eq
    rw [List.length_append, List.length_map] at this
    simp only [DS.waiting]
    have h2 : (s.gone p).settled.2.d = (s.gone p).settle.2 := rfl
    have h1 : (s.gone p).settled.1 = (s.gone p).settle.1 := rfl
    rw [h1, h2]
    simp only [List.length_map] at this ⊢
    omega
  · intro i d hd
    have hm : d ∈ (s.gone p).settle.2 := List.mem_of_getElem? hd
    exact hperm'.mem_iff.1 (List.mem_append_right _ (List.mem_map.2 ⟨d, hm, rfl⟩))
  · intro q
    have : (s.gone p).settled.1.L = updL s.L p.toNat false := settle_L (s.gone p)
    rw [this]
    exact liveB_kill hl
  · intro q hq
    rw [DS.waits_iff] at hq ⊢
    obtain ⟨a, ha, hap⟩ := hq
    have : q ∈ s.Q.map (·.p) := hperm'.mem_iff.1 (List.mem_append_left _ (List.mem_map.2 ⟨a, ha, hap⟩))
    rw [List.mem_map] at this
    obtain ⟨b, hb, hbp⟩ := this
    exact ⟨b, hb, hbp⟩
def DS.cnt (s : DS) : Nat := (ps6.filter fun q => liveB s.L q).length
theorem DS.cnt_le (s : DS) : s.cnt ≤ 6 := List.length_filter_le _ _
/-- One round over the processes: s0 ahead of it, s behind those below p. -/
structure Round (s0 : DS) (p : Int) (s : DS) : Prop where
  inv : s.Inv
  live : ∀ q, liveB s.L q = true → liveB s0.L q = true
  waits : ∀ q, s.waits q = true → s0.waits q = true
  later : ∀ q, p ≤ q → liveB s.L q = liveB s0.L q
  gone : ∀ q, q < p → liveB s0.L q = true → s0.waits q = false → liveB s.L q = false
theorem Round.start {s : DS} (h : s.Inv) : Round s 0 s := ⟨h, fun _ h => h, fun _ h => h, fun _ _ => rfl, fun q hq hl _ => by simp [liveB] at hl; omega⟩
theorem Round.skip {s0 s : DS} {p : Int} (h : Round s0 p s) (hn : liveB s.L p = false ∨ s.waits p = true) : Round s0 (p + 1) s := by
  refine ⟨h.inv, h.live, h.waits, fun q hq => h.later q (by omega), fun q hq hl hw => ?_⟩
  by_cases hqp : q = p
  · subst hqp
    rcases hn with hn | hn
    · exact hn
    · have := h.waits q hn
      rw [hw] at this; cases this
  · exact h.gone q (by omega) hl hw
theorem Round.kill {s0 s t : DS} {p : Int} {r : Rp} (h : Round s0 p s) (hk : Killed s p t r) : Round s0 (p + 1) t := by
  refine ⟨hk.inv, fun q hq => ?_, fun q hq => h.waits q (hk.waits q hq), fun q hq => ?_, fun q hq hl hw => ?_⟩
  · rw [hk.live] at hq
    simp only [Bool.and_eq_true] at hq
    exact h.live q hq.1
  · rw [hk.live, ← h.later q (by omega)]
    simp only [show decide (q ≠ p) = true from decide_eq_true (by omega), Bool.and_true]
  · rw [hk.live]
    by_cases hqp : q = p
    · simp [hqp]
    · rw [h.gone q (by omega) hl hw]; rfl
/-- A round leaves fewer, if there were any. -/
theorem filter_lt {α : Type} {f g : α → Bool} : ∀ (l : List α), (∀ x, g x = true → f x = true) → (∃ x, x ∈ l ∧ f x = true ∧ g x = false) → (l.filter g).length < (l.filter f).length
  | [], _, ⟨x, h, _⟩ => by cases h
  | a :: l, hgf, ⟨x, hx, h1, h2⟩ => by
    have hle : (l.filter g).length ≤ (l.filter f).length := by
      have : l.filter g = (l.filter f).filter g := by
        rw [List.filter_filter]
        refine List.filter_congr fun y _ => ?_
        cases hy : g y with
        | false => simp
        | true => simp [hgf y hy]
      rw [this]; exact List.length_filter_le _ _
    by_cases hxa : x = a
    · subst hxa
      simp only [List.filter_cons, h1, h2, if_true, Bool.false_eq_true, if_false, List.length_cons]
      omega
    · have hx' : x ∈ l := by
        rcases List.mem_cons.1 hx with h | h
        · exact absurd h hxa
        · exact h
      have ih := filter_lt l hgf ⟨x, hx', h1, h2⟩
      cases hga : g a with
      | true =>
        simp only [List.filter_cons, hga, hgf a hga, if_true, List.length_cons]; omega
      | false =>
        cases hfa : f a with
        | true => simp only [List.filter_cons, hga, hfa, if_true, Bool.false_eq_true, if_false, List.length_cons]; omega
        | false => simp only [List.filter_cons, hga, hfa, Bool.false_eq_true, if_false]; omega
theorem Round.cnt {s0 s : DS} (h0 : s0.Inv) (h : Round s0 6 s) : s.cnt + 1 ≤ s0.cnt ∨ s.cnt = 0 := by
  by_cases he : ∃ p, liveB s0.L p = true ∧ s0.waits p = false
  · obtain ⟨p, hl, hw⟩ := he
    left
    have hp := live_mem hl
    have := filter_lt (f := fun q => liveB s0.L q) (g := fun q => liveB s.L q) ps6 h.live ⟨p, hp, hl, h.gone p (by have := mem_ps6.1 hp; omega) hl hw⟩
    unfold DS.cnt
    omega
  · right
    have hq : s0.Q = [] := by
      cases e : s0.Q with
      | nil => rfl
      | cons a t => exact absurd (h0.someone (by rw [e]; simp)) he
    unfold DS.cnt
    rw [List.length_eq_zero_iff, List.filter_eq_nil_iff]
    intro q _ hlq
    refine he ⟨q, h.live q hlq, ?_⟩
    unfold DS.waits
    rw [hq]; rfl
theorem nodup_le : ∀ (l m : List Int), l.Nodup → (∀ x, x ∈ l → x ∈ m) → l.length ≤ m.length
  | [], m, _, _ => Nat.zero_le _
  | a :: l, m, hn, hs => by
    have h := List.nodup_cons.1 hn
    have ih := nodup_le l (m.erase a) h.2 (fun x hx => by
      have hne : x ≠ a := fun e => h.1 (by rw [← e]; exact hx)
      rw [List.mem_erase_of_ne hne]
      exact hs x (List.mem_cons_of_mem _ hx))
    have := List.length_erase_of_mem (hs a (by simp))
    have hp : 0 < m.length := List.length_pos_of_mem (hs a (by simp))
    simp only [List.length_cons]
    omega
/-- No more wait than there are processes. -/
theorem wait_le {s : DS} (h : s.Inv) : s.waiting.length ≤ 6 := by
  refine nodup_le s.waiting ps6 ?_ ?_
  · unfold DS.waiting List.Nodup
    rw [List.pairwise_map]
    exact h.qn
  · intro x hx
    unfold DS.waiting at hx
    rw [List.mem_map] at hx
    obtain ⟨a, ha, rfl⟩ := hx
    exact live_mem (h.q a ha).1.l
theorem cnt_zero {s : DS} (h : s.Inv) (hc : s.cnt = 0) : (∀ p, liveB s.L p = false) ∧ s.waiting = [] ∧ ∀ f, s.R f = [] := by
  have hall : ∀ p, liveB s.L p = false := fun p => by
    cases e : liveB s.L p with
    | false => rfl
    | true =>
      unfold DS.cnt at hc
      rw [List.length_eq_zero_iff, List.filter_eq_nil_iff] at hc
      exact absurd e (hc p (live_mem e))
  refine ⟨hall, ?_, fun f => ?_⟩
  · unfold DS.waiting
    rw [List.map_eq_nil_iff]
    refine List.eq_nil_iff_forall_not_mem.2 fun a ha => ?_
    have := (h.q a ha).1.l
    rw [hall] at this; cases this
  · refine List.eq_nil_iff_forall_not_mem.2 fun x hx => ?_
    have := h.lv f x hx
    rw [hall] at this; cases this
theorem ends_a : rpC (someC 3) (.lock 0 0 2 3 4 false) = rnum 0 ∧ rpC (someC 3 ++ [.lock 0 0 2 3 4 false]) (.lock 1 0 2 3 1 true) = rerr 11 ∧ ((stC (someC 3 ++ [.lock 0 0 2 3 4 false])).runs 0).length = 1 := by decide +kernel
end Go.Proofs.YtaicdjhblbobbaaGreat
