/- What the statement Firm is refused, in the model. -/
import Derived.Test.YtaicdjhblbobbaaGreatGScene
namespace Go.Proofs.YtaicdjhblbobbaaGreat

theorem DS.may_dead {s : DS} {p : Int} (h : liveB s.L p = false) : s.may p = 1 := by
  unfold DS.may; rw [if_pos h]
theorem DS.find_may {s : DS} {p d : Int} (h : s.may p ≠ 0) : s.find p d = .error (s.may p) := by
  unfold DS.find; rw [if_pos h]
theorem DS.find_none {s : DS} {p d : Int} (h : s.may p = 0) (hd : ¬ (0 ≤ d ∧ d < 5) ∨ s.F p d = none) : s.find p d = .error 5 := by
  unfold DS.find
  rw [if_neg (by omega)]
  rcases hd with hd | hd
  · rw [if_pos hd]
  · rw [hd]
    split <;> rfl
theorem DS.find_some {s : DS} {p d : Int} {o : Nat} (h : s.may p = 0) (hd : 0 ≤ d ∧ d < 5) (ho : s.F p d = some o) : s.find p d = .ok o := by
  unfold DS.find
  rw [if_neg (by omega), if_neg (by omega), ho]
/-- A process that is not there, or that waits, is told so. -/
theorem DS.step_may {s : DS} {p : Int} {e : Int} (h : s.may p = e) (he : e ≠ 0) :
    (s.step (.fork p)).2 = rerr e ∧ (∀ f, (s.step (.opn p f)).2 = rerr e) ∧ (∀ d, (s.step (.dup p d)).2 = rerr e) ∧ (∀ d, (s.step (.close p d)).2 = rerr e) ∧
    (∀ d k f l w, (s.step (.lock p d k f l w)).2 = rerr e) ∧ (∀ d k f l, (s.step (.test p d k f l)).2 = rerr e) ∧ (∀ d k w, (s.step (.whole p d k w)).2 = rerr e) := by
  subst h
  refine ⟨?_, fun f => ?_, fun d => ?_, fun d => ?_, fun d k f l w => ?_, fun d k f l => ?_, fun d k w => ?_⟩
  · simp only [DS.step, DS.fork]; rw [if_pos he]
  · simp only [DS.step, DS.opn]; rw [if_pos he]
  · simp only [DS.step, DS.dup, DS.find_may he]
  · simp only [DS.step, DS.close, DS.find_may he]
  · simp only [DS.step, DS.lock, DS.find_may he]
  · simp only [DS.step, DS.test, DS.find_may he]
  · simp only [DS.step, DS.whole, DS.find_may he]
theorem DS.kill_dead {s : DS} {p : Int} (h : liveB s.L p = false) : (s.step (.kill p)).2 = rerr 1 := by
  simp only [DS.step, DS.kill]; rw [if_pos h]
theorem DS.step_fd {s : DS} {p d : Int} {e : Int} (h : s.find p d = .error e) :
    (s.step (.dup p d)).2 = rerr e ∧ (s.step (.close p d)).2 = rerr e ∧ (∀ k f l w, (s.step (.lock p d k f l w)).2 = rerr e) ∧ (∀ k f l, (s.step (.test p d k f l)).2 = rerr e) ∧ (∀ k w, (s.step (.whole p d k w)).2 = rerr e) := by
  refine ⟨?_, ?_, fun k f l w => ?_, fun k f l => ?_, fun k w => ?_⟩
  · simp only [DS.step, DS.dup, h]
  · simp only [DS.step, DS.close, h]
  · simp only [DS.step, DS.lock, h]
  · simp only [DS.step, DS.test, h]
  · simp only [DS.step, DS.whole, h]
theorem DS.step_kind {s : DS} {p d : Int} {o : Nat} (h : s.find p d = .ok o) {k : Int} (hk : kindB k = false) :
    (∀ f l w, (s.step (.lock p d k f l w)).2 = rerr 6) ∧ (∀ f l, (s.step (.test p d k f l)).2 = rerr 6) ∧ (∀ w, (s.step (.whole p d k w)).2 = rerr 6) := by
  refine ⟨fun f l w => ?_, fun f l => ?_, fun w => ?_⟩
  · simp only [DS.step, DS.lock, h]; rw [if_pos hk]
  · simp only [DS.step, DS.test, h]; rw [if_pos (Or.inl hk)]
  · simp only [DS.step, DS.whole, h]; rw [if_pos hk]
theorem DS.step_range {s : DS} {p d : Int} {o : Nat} (h : s.find p d = .ok o) {k f l : Int} (hk : kindB k = true) (hb : badS f l = true) :
    (∀ w, (s.step (.lock p d k f l w)).2 = rerr 7) ∧ (k ≠ 0 → (s.step (.test p d k f l)).2 = rerr 7) := by
  refine ⟨fun w => ?_, fun h0 => ?_⟩
  · simp only [DS.step, DS.lock, h]; rw [if_neg (by simp [hk]), if_pos hb]
  · simp only [DS.step, DS.test, h]; rw [if_neg (by simp [hk, h0]), if_pos hb]
theorem firm_st : (stC firmC).may 0 = 0 ∧ (stC firmC).may 1 = 2 ∧ (stC firmC).F 0 0 = some 0 ∧ (stC firmC).F 0 1 = none ∧ (stC firmC).F 0 4 = none ∧ (stC firmC).L 2 = false := by decide +kernel
theorem firm_a2 : rpC (someC 2) (.lock 0 0 2 10 5 false) = rnum 0 ∧ rpC (someC 2 ++ [.lock 0 0 2 10 5 false]) (.whole 0 0 2 false) = rnum 0 ∧ rpC (someC 2 ++ [.lock 0 0 2 10 5 false] ++ [.whole 0 0 2 false]) (.lock 1 0 1 12 1 true) = rerr 11 := by decide +kernel
theorem firm_test0 : rpC firmC (.test 0 0 0 (-1) 0) = rerr 6 := by decide +kernel
theorem firm_find : (stC firmC).find 0 0 = .ok 0 := DS.find_some firm_st.1 (by decide) firm_st.2.2.1
theorem firm_nofd {d : Int} (h : d < 0 ∨ 5 ≤ d ∨ d = 1 ∨ d = 4) : (stC firmC).find 0 d = .error 5 := by
  refine DS.find_none firm_st.1 ?_
  rcases h with h | h | h | h
  · left; omega
  · left; omega
  · right; rw [h]; exact firm_st.2.2.2.1
  · right; rw [h]; exact firm_st.2.2.2.2.1
theorem firm_dead {p : Int} (h : p < 0 ∨ 6 ≤ p ∨ p = 2) : liveB (stC firmC).L p = false := by
  rcases h with h | h | h
  · unfold liveB; simp; omega
  · unfold liveB; simp; omega
  · rw [h]; unfold liveB; rw [show (2 : Int).toNat = 2 from rfl, firm_st.2.2.2.2.2]; simp
theorem firm_opn {f : Int} (h : ¬ (0 ≤ f ∧ f < 3)) : ((stC firmC).step (.opn 0 f)).2 = rerr 4 := by
  simp only [DS.step, DS.opn]
  rw [if_neg (by rw [firm_st.1]; simp), if_pos h]
theorem firm_tell (c : List Cl) {f : Int} (h : ¬ (0 ≤ f ∧ f < 3)) : (stC c).runs f = [] ∧ (stC c).holds f = [] := by
  have : fileB f = false := by unfold fileB; simp; omega
  simp [DS.runs, DS.holds, this]
theorem map_one' {α β : Type} {f : α → β} {l : List α} {b : β} (h : l.map f = [b]) : ∃ x, l = [x] ∧ f x = b := by
  cases l with
  | nil => simp at h
  | cons a t =>
    cases t with
    | nil => exact ⟨a, rfl, by simpa using h⟩
    | cons c t => simp at h
theorem firm_h : ∃ h, (stC (firmF 4)).holds 0 = [h] ∧ h.ps.length = 5 := map_one' firm_e.2.2.1
end Go.Proofs.YtaicdjhblbobbaaGreat
