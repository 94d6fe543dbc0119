/- The script of the statement Turns, taken apart. -/
import Derived.Test.YtaicdjhblbobbaaGreatGScene
namespace Go.Proofs.YtaicdjhblbobbaaGreat

structure TurnsOk (ks : List Bool) : Prop where
  own : rpC (someC (ks.length + 1)) (.lock 0 0 2 7 1 false) = rnum 0
  ask : ∀ i, i < ks.length → rpC (turnsA ks i) (turnAsk ks i) = rerr 11
  wait : (stC (turnsA ks ks.length)).waiting = procsFrom 1 (ks.length + 1)
  ph : ∀ lo a, (lo, a) ∈ phases ks → a ≤ ks.length ∧ lo ≤ a ∧ (a < ks.length →
    (∀ p, lo ≤ p → p < a → rpC (turnsF ks p) (freeP p) = rnum 0) ∧
    rpC (turnsF ks a) (freeP a) = ⟨0, 0, (procsFrom (a + 1) (nxt ks a + 1)).map fun q => ⟨q, 0⟩⟩ ∧
    (stC (turnsF ks (a + 1))).waiting = procsFrom (nxt ks a + 1) (ks.length + 1) ∧
    (a + 1, nxt ks a) ∈ phases ks)
theorem turns_ok {ks : List Bool} (h1 : 1 ≤ ks.length) (h5 : ks.length ≤ 5) : TurnsOk ks := by
  have h := turns_all ⟨ks.length, by omega⟩ h1 ks (mem_lists ks)
  unfold turnsOk at h
  simp only [Bool.and_eq_true, decide_eq_true_eq, List.all_eq_true, List.mem_range, Bool.or_eq_true] at h
  obtain ⟨⟨⟨g1, g2⟩, g3⟩, g4⟩ := h
  refine ⟨g1, g2, g3, fun lo a hm => ?_⟩
  obtain ⟨⟨k1, k2⟩, k3⟩ := g4 (lo, a) hm
  refine ⟨k1, k2, fun hl => ?_⟩
  rcases k3 with k3 | ⟨⟨⟨k4, k5⟩, k6⟩, k7⟩
  · exact absurd k3 (Nat.ne_of_lt hl)
  · refine ⟨fun p hp hpa => ?_, k5, k6, k7⟩
    rcases k4 p hpa with h | h
    · exact absurd h (by show ¬ p < lo; omega)
    · exact h
theorem phases_start (ks : List Bool) : (0, 0) ∈ phases ks := by
  unfold phases phasesN
  simp
def nxtOk (ks : List Bool) (a : Nat) : Bool :=
  decide (a < nxt ks a) && decide (nxt ks a ≤ ks.length) && (if ks.getD a false then ((List.range (nxt ks a)).all fun j => decide (j < a) || ks.getD j false) && (decide (nxt ks a = ks.length) || !ks.getD (nxt ks a) false) else decide (nxt ks a = a + 1))
theorem nxt_all : ∀ m : Fin 6, ∀ ks, ks ∈ lists m.val → ∀ a : Fin 6, a.val < ks.length → nxtOk ks a.val = true := by decide +kernel
theorem nxt_spec {ks : List Bool} {a : Nat} (h5 : ks.length ≤ 5) (ha : a < ks.length) : a < nxt ks a ∧ nxt ks a ≤ ks.length ∧ (ks.getD a false = false → nxt ks a = a + 1) ∧ (ks.getD a false = true → (∀ j, a ≤ j → j < nxt ks a → ks.getD j false = true) ∧ (nxt ks a < ks.length → ks.getD (nxt ks a) false = false)) := by
  have h := nxt_all ⟨ks.length, by omega⟩ ks (mem_lists ks) ⟨a, by omega⟩ ha
  unfold nxtOk at h
  simp only [Bool.and_eq_true, decide_eq_true_eq] at h
  obtain ⟨⟨h1, h2⟩, h3⟩ := h
  refine ⟨h1, h2, fun e => ?_, fun e => ?_⟩
  · rw [if_neg (by rw [e]; exact Bool.false_ne_true)] at h3
    simpa using h3
  · rw [if_pos e] at h3
    simp only [Bool.and_eq_true, List.all_eq_true, List.mem_range, Bool.or_eq_true, decide_eq_true_eq, Bool.not_eq_true'] at h3
    refine ⟨fun j hj hjn => ?_, fun hl => ?_⟩
    · rcases h3.1 j hjn with h | h
      · omega
      · exact h
    · rcases h3.2 with h | h
      · omega
      · exact h
/-- The kind that Turns makes of raw numbers: is it shared? -/
def turnK (raw : List Int) (i : Nat) : Bool := match raw[i]? with | some z => z.tmod 3 != 0 | none => false
def turnKs (raw : List Int) (n : Nat) : List Bool := (List.range (n - 1)).map fun j => turnK raw (j + 1)
theorem turnKs_len (raw : List Int) (n : Nat) : (turnKs raw n).length = n - 1 := by simp [turnKs]
theorem turnKs_get {raw : List Int} {n j : Nat} (h : j < n - 1) : (turnKs raw n).getD j false = turnK raw (j + 1) := by
  unfold turnKs
  rw [List.getD_eq_getElem?_getD, List.getElem?_map, List.getElem?_range h]
  rfl
/-- The kinds that were made so far. -/
def kindsL (ks : List Bool) (m : Nat) : List Int := (List.range m).map fun j => kindS (ks.getD j false)
theorem kindsL_succ (ks : List Bool) (m : Nat) : kindsL ks (m + 1) = kindsL ks m ++ [kindS (ks.getD m false)] := by
  unfold kindsL; rw [List.range_succ, List.map_append]; rfl
theorem kindsL_len (ks : List Bool) (m : Nat) : (kindsL ks m).length = m := by simp [kindsL]
theorem kindsL_get {ks : List Bool} {m j : Nat} (h : j < m) : (kindsL ks m)[j]? = some (kindS (ks.getD j false)) := by
  unfold kindsL
  rw [List.getElem?_map, List.getElem?_range h]
  rfl
theorem procsFrom_snoc {a b : Nat} (h : a ≤ b) : procsFrom a (b + 1) = procsFrom a b ++ [(b : Int)] := by
  unfold procsFrom
  rw [show b + 1 - a = (b - a) + 1 by omega, List.range_succ, List.map_append]
  simp
  omega
end Go.Proofs.YtaicdjhblbobbaaGreat
