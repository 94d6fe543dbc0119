/- The statement Spans: what the model answers. -/
import Derived.Test.YtaicdjhblbobbaaGreatGKeep
namespace Go.Proofs.YtaicdjhblbobbaaGreat
open Go.RowKit

/-- Three processes, each with an opening of file 0 as descriptor 0; nobody waits; the runs of file 0 are l. -/
structure SpD (s : DS) (l : List Rn) : Prop where
  lv : ∀ p : Int, 0 ≤ p → p < 3 → liveB s.L p = true
  f : ∀ p : Int, 0 ≤ p → p < 3 → ∃ o, s.F p 0 = some o ∧ s.O o = 0
  r : s.R 0 = l
  q : s.Q = []
theorem SpD.find {s : DS} {l : List Rn} (h : SpD s l) {p : Int} (h0 : 0 ≤ p) (h1 : p < 3) : ∃ o, s.find p 0 = .ok o ∧ s.O o = 0 := by
  obtain ⟨o, hf, ho⟩ := h.f p h0 h1
  refine ⟨o, ?_, ho⟩
  unfold DS.find DS.may DS.waits
  rw [h.lv p h0 h1, h.q]
  simp [hf]
theorem SpD.start : SpD (stC (someC 3)) [] := by
  refine ⟨fun p h0 h1 => ?_, fun p h0 h1 => ?_, by decide +kernel, by decide +kernel⟩
  · obtain rfl | rfl | rfl : p = 0 ∨ p = 1 ∨ p = 2 := by omega
    all_goals decide +kernel
  · obtain rfl | rfl | rfl : p = 0 ∨ p = 1 ∨ p = 2 := by omega
    · exact ⟨0, by decide +kernel, by decide +kernel⟩
    · exact ⟨1, by decide +kernel, by decide +kernel⟩
    · exact ⟨2, by decide +kernel, by decide +kernel⟩
theorem bad1 {a n : Int} (h0 : 0 ≤ a) (h1 : 1 ≤ n) (h2 : a + n ≤ 64) : badS a n = false ∧ fromS a n = a ∧ toS a n = a + n - 1 := by
  refine ⟨by simp [badS]; omega, ?_, ?_⟩
  · unfold fromS; rw [if_neg (by omega)]
  · unfold toS; rw [if_neg (by omega), if_pos (by omega)]
theorem bad2 {a n : Int} (h0 : 0 ≤ a) (h1 : 1 ≤ n) (h2 : a + n ≤ 64) : badS (a + n) (-n) = false ∧ fromS (a + n) (-n) = a ∧ toS (a + n) (-n) = a + n - 1 := by
  refine ⟨by simp [badS]; omega, ?_, ?_⟩
  · unfold fromS; rw [if_pos (by omega)]; omega
  · unfold toS; rw [if_neg (by omega), if_neg (by omega)]
theorem bad3 {a n : Int} (h0 : 0 ≤ a) (h1 : 1 ≤ n) (h2 : a + n = 64) : badS a 0 = false ∧ fromS a 0 = a ∧ toS a 0 = a + n - 1 := by
  refine ⟨by simp [badS]; omega, by simp [fromS], by simp [toS]; omega⟩
theorem setR_same (r : Rn) (hk : r.k = 2) (hft : r.f ≤ r.t) (l : List Rn) (hl : l = [] ∨ l = [r]) : setR l r = [r] := by
  have hc : cutR l r = [] := by
    rcases hl with rfl | rfl
    · rfl
    · simp [cutR, cutS, meetsB]; omega
  unfold setR
  rw [if_neg (by omega), hc]
  rfl
theorem holders_one (k f t : Int) (r : Rn) : holders [⟨1, k, f, t⟩] r = if r.bites ⟨1, k, f, t⟩ = true then [1] else [] := by
  unfold holders
  simp only [List.any_cons, List.any_nil, Bool.or_false]
  generalize r.bites ⟨1, k, f, t⟩ = b
  have key : ∀ b : Bool, (List.filter (fun q => decide ((1 : Int) = q) && b) ps6) = if b = true then [1] else [] := by decide
  exact key b
theorem holders_same (r : Rn) (l : List Rn) (hl : l = [] ∨ l = [r]) (a : Rn) (ha : a.p = r.p) : holders l a = [] := by
  refine List.filter_eq_nil_iff.2 fun q _ => ?_
  rcases hl with rfl | rfl
  · simp
  · simp [Rn.bites, bitesB, ha]

/-- Process 1 locks its range. -/
theorem SpD.lock {s : DS} {l : List Rn} (hs : SpD s l) (a n : Int) (hft : 1 ≤ n) (hl : l = [] ∨ l = [⟨1, 2, a, a + n - 1⟩]) (f len : Int) (hb : badS f len = false) (hf : fromS f len = a) (ht : toS f len = a + n - 1) :
    ∃ s', s.step (.lock 1 0 2 f len false) = (s', ⟨0, 0, []⟩) ∧ SpD s' [⟨1, 2, a, a + n - 1⟩] := by
  obtain ⟨o, hfd, ho⟩ := hs.find (p := 1) (by omega) (by omega)
  refine ⟨{s with R := updR s.R 0 [⟨1, 2, a, a + n - 1⟩]}, ?_, ⟨hs.lv, hs.f, rfl, hs.q⟩⟩
  show s.lock 1 0 2 f len false = _
  unfold DS.lock
  rw [hfd]
  simp only [hb, ho, hf, ht, Bool.false_eq_true, if_false, show kindB 2 = true from rfl, Bool.true_eq_false]
  have hway : s.way ⟨1, 2, 0, false, o, a, a + n - 1⟩ s.Q = [] := by
    unfold DS.way
    rw [hs.q]
    simp only [List.filter_nil, List.map_nil, List.nil_append, Bool.false_eq_true, if_false, Ask.run, hs.r]
    rw [holders_same ⟨1, 2, a, a + n - 1⟩ l hl _ rfl]
    rfl
  have htake : s.take ⟨1, 2, 0, false, o, a, a + n - 1⟩ = ({s with R := updR s.R 0 [⟨1, 2, a, a + n - 1⟩]}, 0) := by
    unfold DS.take
    simp only [Bool.false_eq_true, if_false, Ask.run, hs.r]
    rw [setR_same ⟨1, 2, a, a + n - 1⟩ rfl (by simp only; omega) l hl]
    simp
  unfold DS.ask
  rw [if_pos (Or.inr hway), htake, if_neg (by simp)]
  unfold DS.settled DS.settle
  rw [show ({s with R := updR s.R 0 [⟨1, 2, a, a + n - 1⟩]} : DS).Q.length = 0 by show s.Q.length = 0; rw [hs.q]; rfl]
  rfl
theorem SpD.bad {s : DS} {l : List Rn} (hs : SpD s l) {k f len : Int} (hk : kindB k = true) (hb : badS f len = true) : s.step (.lock 1 0 k f len false) = (s, ⟨7, 0, []⟩) := by
  obtain ⟨o, hfd, ho⟩ := hs.find (p := 1) (by omega) (by omega)
  show s.lock 1 0 k f len false = _
  unfold DS.lock
  rw [hfd]
  simp only [hb, hk, Bool.true_eq_false, if_false, if_true]
  rfl
theorem SpD.busy {s : DS} {a n : Int} (hs : SpD s [⟨1, 2, a, a + n - 1⟩]) (h0 : 0 ≤ a) (h1 : a ≤ 63) (hn : 1 ≤ n) : s.step (.lock 2 0 1 a 1 false) = (s, ⟨8, 0, []⟩) := by
  obtain ⟨o, hfd, ho⟩ := hs.find (p := 2) (by omega) (by omega)
  obtain ⟨b1, b2, b3⟩ := bad1 (a := a) (n := 1) h0 (by omega) (by omega)
  show s.lock 2 0 1 a 1 false = _
  unfold DS.lock
  rw [hfd]
  simp only [b1, b2, b3, ho, Bool.false_eq_true, if_false, show kindB 1 = true from rfl, Bool.true_eq_false]
  have hway : s.way ⟨2, 1, 0, false, o, a, a + 1 - 1⟩ s.Q = [[1]] := by
    unfold DS.way
    rw [hs.q]
    simp only [List.filter_nil, List.map_nil, List.nil_append, Bool.false_eq_true, if_false, Ask.run, hs.r]
    rw [holders_one, if_pos (by simp [Rn.bites, bitesB, meetsB, biteB]; omega)]
    rfl
  unfold DS.ask
  rw [if_neg (by rw [hway]; simp)]
  rfl
theorem SpD.test {s : DS} {a n : Int} (hs : SpD s [⟨1, 2, a, a + n - 1⟩]) (p k at_ : Int) (hp : p = 0 ∧ k = 1 ∨ p = 1 ∧ k = 2) (h0 : 0 ≤ at_) (h1 : at_ ≤ 63) (N : Int) (hN : N = if p = 0 ∧ a ≤ at_ ∧ at_ < a + n then 1 else -1) :
    s.step (.test p 0 k at_ 1) = (s, ⟨0, N, []⟩) := by
  obtain ⟨o, hfd, ho⟩ := hs.find (p := p) (by omega) (by omega)
  obtain ⟨b1, b2, b3⟩ := bad1 (a := at_) (n := 1) h0 (by omega) (by omega)
  show (s, s.test p 0 k at_ 1) = _
  have hk : kindB k = true := by rcases hp with ⟨_, rfl⟩ | ⟨_, rfl⟩ <;> rfl
  have hk0 : ¬ k = 0 := by omega
  unfold DS.test
  rw [hfd]
  simp only [b1, b2, b3, ho, hk, hk0, Bool.false_eq_true, if_false, Bool.true_eq_false, or_self, hs.r]
  rw [holders_one]
  subst hN
  rcases hp with ⟨rfl, rfl⟩ | ⟨rfl, rfl⟩
  · by_cases h : a ≤ at_ ∧ at_ < a + n
    · rw [if_pos (by simp [Rn.bites, bitesB, meetsB, biteB]; omega), if_pos ⟨rfl, h⟩]
      rfl
    · rw [if_neg (by simp [Rn.bites, bitesB, meetsB, biteB]; omega), if_neg (fun e => h e.2)]
      rfl
  · rw [if_neg (by simp [Rn.bites, bitesB]), if_neg (fun e => by cases e.1)]
    rfl
section
variable {rep : World → Nat → (Nat → Prop) → DS → Prop} (K : Face rep) {w0 w : World} {kb : Nat} {P : Nat → Prop} {s : DS}
include K
/-- A call, by the state. -/
theorem KW.at' (h : KW rep w0 w kb P s) (c : Cl) (hc : c.rng) {t : DS} {e0 n0 : Int} (he : s.step c = (t, ⟨e0, n0, []⟩)) :
    Calls Tryz.prog c.fn (c.args kb) w fun e w' => ∃ P' a cp, e = .returned (.agg #[.int .i64 e0, .int .i64 n0, .slice a 0 cp]) ∧ KW rep w0 w' kb P' t ∧ Upd P P' w w' := by
  refine (K.step c hc h.r).mono ?_
  rintro e w' ⟨P', v, rfl, ht, hr, hu⟩
  rw [he] at ht hr ⊢
  obtain ⟨a, cp, rfl⟩ := ht.slice
  exact ⟨P', a, cp, rfl, h.upd K hr hu, hu⟩
end
end Go.Proofs.YtaicdjhblbobbaaGreat
