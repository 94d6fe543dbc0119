/- The landed program answers as the model: all calls but Test, which this statement's road does not meet. -/
import Derived.Test.YtaicdjhblbobbabGreatGMain
import Derived.Test.YtaicdjhblbobbabGreatGFaceK
namespace Go.Proofs.YtaicdjhblbobbabGreat
open Go.RowKit Go.Lib

theorem face : Face rep where
  frame := fun h hs hb => ⟨h.1, fun b hp => Nat.lt_of_lt_of_le (h.2.1 b hp) hs, by
    obtain ⟨tb, mb, ι, rv, wv, qv, hk⟩ := h.2.2
    exact ⟨tb, mb, ι, rv, wv, qv, hk.frame hb⟩⟩
  lt := fun h => h.2.1
  inv := fun h => h.1
  new := fun w => by
    refine (New_any w).mono ?_
    rintro e w' ⟨kb, tb, mb, rv, wv, qv, rfl, hkv, hb⟩
    refine ⟨kb, after w w' (fun _ => False) [], rfl, ⟨DS.Inv.new, fun b hp => hp.2.1, tb, mb, _, rv, wv, qv, (hkv.mono fun b hb => Or.inr hb).after fun v hv => by simp at hv⟩, ⟨hb.os, hb.tape, hb.output, hb.size, fun k hk _ => hb.block k hk, fun k hk hp => ?_⟩⟩
    rcases hp.1 with h | h
    · exact h
    · omega
  step := fun {w kb P s} c hc h => by
    obtain ⟨hi, hlt, tb, mb, ι, rv, wv, qv, hk⟩ := h
    have hkg := rep.grown hk
    have hP : ∀ b, w.heap.size ≤ b → (P b ∨ w.heap.size ≤ b) := fun b hb => Or.inr hb
    have hs := hi.step c
    cases c with
    | fork p => exact (Fork_any hkg hP (Nat.le_refl _) hi p).mono fun e w' hd => hd.told hs hk.pk
    | kill p => exact (Kill_any hkg hP (Nat.le_refl _) hi p).mono fun e w' hd => hd.told hs hk.pk
    | opn p f => exact (Open_any hkg hP (Nat.le_refl _) hi p f).mono fun e w' hd => hd.told hs hk.pk
    | dup p d => exact (Dup_any hkg hP (Nat.le_refl _) hi p d).mono fun e w' hd => hd.told hs hk.pk
    | close p d => exact (Close_any hkg hP (Nat.le_refl _) hi p d).mono fun e w' hd => hd.told hs hk.pk
    | lock p d k f l wt => exact (Lock_any hkg hP (Nat.le_refl _) hi p d k f l wt).mono fun e w' hd => hd.told hs hk.pk
    | test p d k f l => exact absurd hc id
    | whole p d k wt => exact (Whole_any hkg hP (Nat.le_refl _) hi p d k wt).mono fun e w' hd => hd.told hs hk.pk
  runs := fun {w kb P s} f _ h => by
    obtain ⟨hi, hlt, tb, mb, ι, rv, wv, qv, hk⟩ := h
    refine (Runs_any (rep.grown hk) f).mono ?_
    rintro e w' ⟨v, rfl, ho, hkv, hkp⟩
    refine ⟨after w w' P [v], v, rfl, ⟨ho, fun b e2 hp => hp.2.2 v (by simp) e2⟩, ⟨hi, fun b hp => hp.2.1, tb, mb, ι, rv, wv, qv, hkv.after fun u hu => ?_⟩, upd_after (hkp.mono (by simp)) hk.pk _⟩
    simp only [List.mem_cons, List.not_mem_nil, or_false] at hu
    subst hu
    exact own_told ho (by decide)
  holds := fun {w kb P s} f _ h => by
    obtain ⟨hi, hlt, tb, mb, ι, rv, wv, qv, hk⟩ := h
    refine (Holds_any (rep.grown hk) f).mono ?_
    rintro e w' ⟨v, vs, rfl, ho, hkv, hkp⟩
    have hget : ∀ u, u ∈ vs → ∃ (j : Nat) (d : Hd), (s.holds f)[j]? = some d ∧ vs[j]? = some u := fun u hu => by
      obtain ⟨j, hj⟩ := List.mem_iff_getElem?.1 hu
      have hl : j < (s.holds f).length := by rw [← ho.len]; exact (List.getElem?_eq_some_iff.1 hj).1
      exact ⟨j, _, List.getElem?_eq_getElem hl, hj⟩
    have hfar : ∀ u, u ∈ v :: vs → ∀ b, u.ownBlock = some b → ¬ after w w' P (v :: vs) b := fun u hu b e2 hp => hp.2.2 u hu e2
    refine ⟨after w w' P (v :: vs), v, vs, rfl, ho.len, ⟨ho.own, hfar v List.mem_cons_self⟩, fun i d u h1 h2 => ⟨ho.each i d u h1 h2, hfar u (List.mem_cons_of_mem _ (List.mem_of_getElem? h2))⟩, List.pairwise_cons.2 ⟨fun u hu b e1 e2 => ?_, ho.apart⟩, ⟨hi, fun b hp => hp.2.1, tb, mb, ι, rv, wv, qv, hkv.after fun u hu => ?_⟩, upd_after (hkp.mono (by simp)) hk.pk _⟩
    · obtain ⟨j, d, h1, h2⟩ := hget u hu
      obtain ⟨c1, k1⟩ := own_tag ho.own e1
      obtain ⟨c2, k2⟩ := own_tag (ho.each j d u h1 h2) e2
      rw [k1] at k2
      cases k2
    · rcases List.mem_cons.1 hu with rfl | hu
      · exact own_told ho.own (by decide)
      · obtain ⟨j, d, h1, h2⟩ := hget u hu
        exact own_told (ho.each j d u h1 h2) (by decide)
  waiting := fun {w kb P s} h => by
    obtain ⟨hi, hlt, tb, mb, ι, rv, wv, qv, hk⟩ := h
    refine (Waiting_any (rep.grown hk)).mono ?_
    rintro e w' ⟨v, rfl, ho, hkv, hkp⟩
    refine ⟨after w w' P [v], v, rfl, ⟨ho, fun b e2 hp => hp.2.2 v (by simp) e2⟩, ⟨hi, fun b hp => hp.2.1, tb, mb, ι, rv, wv, qv, hkv.after fun u hu => ?_⟩, upd_after (hkp.mono (by simp)) hk.pk _⟩
    simp only [List.mem_cons, List.not_mem_nil, or_false] at hu
    subst hu
    exact own_told ho (by decide)
end Go.Proofs.YtaicdjhblbobbabGreat
