/- Each call keeps the invariant of the model; some process that does not wait is there whenever one is that does. -/
import Derived.Test.YtaicdjhblbobbaaGreatPPure
namespace Go.Proofs.YtaicdjhblbobbaaGreat

theorem DS.mem_users {s : DS} {o : Nat} {p : Int} : p ∈ s.users o ↔ p ∈ ps6 ∧ s.has o p = true := by
  unfold DS.users; rw [List.mem_filter]
theorem DS.mem_way {s : DS} {a : Ask} {l : List Ask} {c : List Int} : c ∈ s.way a l ↔ (∃ b, b ∈ l ∧ a.bites b = true ∧ c = [b.p]) ∨ (a.whole = true ∧ ∃ w, w ∈ s.W a.file ∧ w.o ≠ a.o ∧ biteB a.k w.k = true ∧ c = s.users w.o) ∨ (a.whole = false ∧ ∃ q, q ∈ holders (s.R a.file) a.run ∧ c = [q]) := by
  unfold DS.way
  rw [List.mem_append, List.mem_map]
  have e1 : (∃ b, b ∈ l.filter a.bites ∧ [b.p] = c) ↔ (∃ b, b ∈ l ∧ a.bites b = true ∧ c = [b.p]) := by
    constructor
    · rintro ⟨b, h1, h2⟩; rw [List.mem_filter] at h1; exact ⟨b, h1.1, h1.2, h2.symm⟩
    · rintro ⟨b, h1, h2, h3⟩; exact ⟨b, List.mem_filter.2 ⟨h1, h2⟩, h3.symm⟩
  rw [e1]
  cases hw : a.whole with
  | true =>
    simp only [if_true, List.mem_map, List.mem_filter, Bool.and_eq_true, decide_eq_true_eq]
    constructor
    · rintro (h | ⟨w, ⟨h1, h2, h3⟩, h4⟩)
      · exact Or.inl h
      · exact Or.inr (Or.inl ⟨trivial, w, h1, h2, h3, h4.symm⟩)
    · rintro (h | ⟨_, w, h1, h2, h3, h4⟩ | ⟨h, _⟩)
      · exact Or.inl h
      · exact Or.inr ⟨w, ⟨h1, h2, h3⟩, h4.symm⟩
      · cases h
  | false =>
    simp only [Bool.false_eq_true, if_false, List.mem_map]
    constructor
    · rintro (h | ⟨q, h1, h2⟩)
      · exact Or.inl h
      · exact Or.inr (Or.inr ⟨trivial, q, h1, h2.symm⟩)
    · rintro (h | ⟨h, _⟩ | ⟨_, q, h1, h2⟩)
      · exact Or.inl h
      · cases h
      · exact Or.inr ⟨q, h1, h2.symm⟩
theorem mem_holders {l : List Rn} {r : Rn} {q : Int} : q ∈ holders l r ↔ q ∈ ps6 ∧ ∃ x, x ∈ l ∧ x.p = q ∧ r.bites x = true := by
  unfold holders
  rw [List.mem_filter]
  simp only [List.any_eq_true, Bool.and_eq_true, decide_eq_true_eq]
theorem nil_of_not_mem {α : Type} {l : List α} (h : ∀ x, x ∉ l) : l = [] := List.eq_nil_iff_forall_not_mem.2 h

/-- More descriptors, more processes, more openings: all that waited waits on, and nobody is stuck. -/
theorem DS.Inv.grow {s t : DS} (h : s.Inv) (hQ : t.Q = s.Q) (hR : t.R = s.R) (hW : t.W = s.W) (hL : ∀ p, liveB s.L p = true → liveB t.L p = true)
    (hF : ∀ p d o, s.F p d = some o → t.F p d = some o) (hO : ∀ o, o < s.N → t.O o = s.O o) (hO3 : ∀ o, t.O o < 3)
    (hf : ∀ p d o, t.F p d = some o → liveB t.L p = true ∧ 0 ≤ d ∧ d < 5 ∧ o < t.N) : t.Inv := by
  have hhas : ∀ o p, s.has o p = true → t.has o p = true := fun o p hh => by
    rw [DS.has_iff] at hh ⊢
    obtain ⟨d, h1, h2⟩ := hh
    exact ⟨d, h1, hF _ _ _ h2⟩
  have hlt : ∀ o p, s.has o p = true → o < s.N := fun o p hh => by
    rw [DS.has_iff] at hh
    obtain ⟨d, h1, h2⟩ := hh
    exact (h.f _ _ _ h2).2.2.2
  have hway : ∀ a l c, c ∈ t.way a l → ∃ c0, c0 ∈ s.way a l ∧ ∀ q, q ∈ c0 → q ∈ c := fun a l c hc => by
    rw [DS.mem_way] at hc
    rcases hc with ⟨b, h1, h2, h3⟩ | ⟨h0, w, h1, h2, h3, h4⟩ | ⟨h0, q, h1, h2⟩
    · exact ⟨c, DS.mem_way.2 (Or.inl ⟨b, h1, h2, h3⟩), fun _ hq => hq⟩
    · refine ⟨s.users w.o, DS.mem_way.2 (Or.inr (Or.inl ⟨h0, w, hW ▸ h1, h2, h3, rfl⟩)), fun q hq => ?_⟩
      rw [h4]
      rw [DS.mem_users] at hq ⊢
      exact ⟨hq.1, hhas _ _ hq.2⟩
    · exact ⟨c, DS.mem_way.2 (Or.inr (Or.inr ⟨h0, q, hR ▸ h1, h2⟩)), fun _ hq => hq⟩
  have hway' : ∀ a l, s.way a l ≠ [] → t.way a l ≠ [] := fun a l hne hn => by
    apply hne
    refine nil_of_not_mem fun c hc => ?_
    rw [DS.mem_way] at hc
    have : ∃ c', c' ∈ t.way a l := by
      rcases hc with ⟨b, h1, h2, h3⟩ | ⟨h0, w, h1, h2, h3, h4⟩ | ⟨h0, q, h1, h2⟩
      · exact ⟨_, DS.mem_way.2 (Or.inl ⟨b, h1, h2, rfl⟩)⟩
      · exact ⟨_, DS.mem_way.2 (Or.inr (Or.inl ⟨h0, w, hW ▸ h1, h2, h3, rfl⟩))⟩
      · exact ⟨_, DS.mem_way.2 (Or.inr (Or.inr ⟨h0, q, hR ▸ h1, rfl⟩))⟩
    obtain ⟨c', hc'⟩ := this
    rw [hn] at hc'; cases hc'
  refine ⟨⟨hf, hO3, fun f => hR ▸ h.wf f, fun f => hR ▸ h.len f, fun f x hx => hL _ (h.lv f x (hR ▸ hx)), fun f x y hx hy => h.nb f x y (hR ▸ hx) (hR ▸ hy), ?_, fun f => hW ▸ h.wn f, hQ ▸ h.qn, ?_⟩, ?_, ?_⟩
  · intro f x hx
    rw [hW] at hx
    obtain ⟨h1, h2, h3⟩ := h.w f x hx
    rw [DS.inUse_iff] at h1
    obtain ⟨p, hp, hh⟩ := h1
    exact ⟨DS.inUse_iff.2 ⟨p, hp, hhas _ _ hh⟩, h2, by rw [hO _ (hlt _ _ hh)]; exact h3⟩
  · intro a ha
    rw [hQ] at ha
    obtain ⟨h1, h2⟩ := h.q a ha
    exact ⟨⟨hL _ h1.l, h1.k, h1.file, fun e => ⟨hhas _ _ (h1.wh e).1, by rw [hO _ (hlt _ _ (h1.wh e).1)]; exact (h1.wh e).2⟩, h1.rg⟩, h2⟩
  · intro i a ha
    rw [hQ] at ha ⊢
    exact hway' _ _ (h.free i a ha)
  · refine nil_of_not_mem fun p hp => ?_
    have : s.IsStuck (· ∈ t.stuck) := fun q hq => by
      obtain ⟨i, a, h1, h2, c, h3, h4⟩ := t.stuck_is q hq
      rw [hQ] at h1 h3
      obtain ⟨c0, h5, h6⟩ := hway _ _ _ h3
      exact ⟨i, a, h1, h2, c0, h5, fun r hr => h4 r (h6 r hr)⟩
    have := DS.stuck_greatest this hp
    rw [h.stk] at this; cases this

theorem DS.may_ok {s : DS} {p : Int} (h : s.may p = 0) : liveB s.L p = true ∧ s.waits p = false := by
  unfold DS.may at h
  cases hl : liveB s.L p with
  | false => rw [if_pos hl] at h; cases h
  | true =>
    rw [if_neg (by simp [hl])] at h
    cases hw : s.waits p with
    | false => exact ⟨rfl, rfl⟩
    | true => rw [if_pos hw] at h; cases h
theorem DS.waits_iff {s : DS} {p : Int} : s.waits p = true ↔ ∃ a, a ∈ s.Q ∧ a.p = p := by
  unfold DS.waits; simp
theorem DS.not_waits {s : DS} {p : Int} (h : s.waits p = false) {a : Ask} (ha : a ∈ s.Q) : a.p ≠ p := fun e => by
  have := DS.waits_iff.2 ⟨a, ha, e⟩
  rw [h] at this; cases this
theorem liveB_upd {L : Nat → Bool} {c p : Int} (h : liveB L p = true) : liveB (updL L c.toNat true) p = true := by
  unfold liveB updL at *
  simp only [Bool.and_eq_true, decide_eq_true_eq] at h ⊢
  refine ⟨h.1, ?_⟩
  split
  · rfl
  · exact h.2
theorem DS.Inv.fork {s : DS} (h : s.Inv) (p : Int) : (s.fork p).1.Inv := by
  unfold DS.fork
  split
  · exact h
  · rename_i hm
    have hm : s.may p = 0 := by simpa using hm
    obtain ⟨hl, hw⟩ := DS.may_ok hm
    cases e : ps6.find? fun c => !s.L c.toNat with
    | none => exact h
    | some c =>
      have hc : c ∈ ps6 := List.mem_of_find?_eq_some e
      have hd : s.L c.toNat = false := by simpa using List.find?_some e
      rw [mem_ps6] at hc
      have hlc : liveB s.L c = false := by simp [liveB, hd]
      have hnone : ∀ d, s.F c d = none := fun d => by
        cases e' : s.F c d with
        | none => rfl
        | some o => have := (h.f _ _ _ e').1; rw [hlc] at this; cases this
      have hlv : liveB (updL s.L c.toNat true) c = true := by simp [liveB, updL]; omega
      refine h.grow rfl rfl rfl (fun q hq => liveB_upd hq) ?_ (fun _ _ => rfl) h.o ?_
      · intro q d o hq
        show copyF s.F p c 5 q d = some o
        unfold copyF
        rw [if_neg]
        · exact hq
        · rintro ⟨rfl, _⟩; rw [hnone] at hq; cases hq
      · intro q d o hq
        have hq : copyF s.F p c 5 q d = some o := hq
        unfold copyF at hq
        split at hq
        · rename_i hc'
          obtain ⟨_, h2, h3, h4⟩ := h.f _ _ _ hq
          exact ⟨by rw [hc'.1]; exact hlv, h2, h3, h4⟩
        · obtain ⟨h1, h2, h3, h4⟩ := h.f _ _ _ hq
          exact ⟨liveB_upd h1, h2, h3, h4⟩
theorem DS.least?_some {s : DS} {p d : Int} (h : s.least? p = some d) : 0 ≤ d ∧ d < 5 ∧ s.F p d = none := by
  unfold DS.least? at h
  have h1 := List.mem_of_find?_eq_some h
  have h2 := List.find?_some h
  rw [mem_ds5] at h1
  exact ⟨h1.1, h1.2, by simpa using h2⟩
theorem DS.Inv.opn {s : DS} (h : s.Inv) (p f : Int) : (s.opn p f).1.Inv := by
  unfold DS.opn
  split
  · exact h
  · rename_i hm
    have hm : s.may p = 0 := by simpa using hm
    obtain ⟨hl, hw⟩ := DS.may_ok hm
    split
    · exact h
    · rename_i hf
      have hf : 0 ≤ f ∧ f < 3 := by simpa using hf
      cases e : s.least? p with
      | none => exact h
      | some d =>
        obtain ⟨d0, d1, d2⟩ := DS.least?_some e
        refine h.grow rfl rfl rfl (fun q hq => hq) ?_ ?_ ?_ ?_
        · intro q d' o hq
          show updF s.F p d (some s.N) q d' = some o
          unfold updF
          rw [if_neg]
          · exact hq
          · rintro ⟨rfl, rfl⟩; rw [d2] at hq; cases hq
        · intro o ho
          show updR s.O s.N f.toNat o = s.O o
          unfold updR
          rw [if_neg (by omega)]
        · intro o
          show updR s.O s.N f.toNat o < 3
          unfold updR
          split
          · omega
          · exact h.o o
        · intro q d' o hq
          have hq : updF s.F p d (some s.N) q d' = some o := hq
          show _ ∧ _ ∧ _ ∧ o < s.N + 1
          unfold updF at hq
          split at hq
          · rename_i e'
            simp at hq
            rw [e'.1, e'.2]
            exact ⟨hl, d0, d1, by omega⟩
          · obtain ⟨h1, h2, h3, h4⟩ := h.f _ _ _ hq
            exact ⟨h1, h2, h3, by omega⟩
theorem DS.find_ok {s : DS} {p d : Int} {o : Nat} (h : s.find p d = .ok o) : s.may p = 0 ∧ 0 ≤ d ∧ d < 5 ∧ s.F p d = some o := by
  unfold DS.find at h
  split at h
  · cases h
  · rename_i hm
    split at h
    · cases h
    · rename_i hd
      cases e : s.F p d with
      | none => rw [e] at h; cases h
      | some o' =>
        rw [e] at h
        simp at h
        subst h
        exact ⟨by simpa using hm, (Decidable.of_not_not hd).1, (Decidable.of_not_not hd).2, rfl⟩
theorem DS.Inv.dup {s : DS} (h : s.Inv) (p d : Int) : (s.dup p d).1.Inv := by
  unfold DS.dup
  cases e : s.find p d with
  | error x => exact h
  | ok o =>
    obtain ⟨hm, d0, d1, hF⟩ := DS.find_ok e
    obtain ⟨hl, hw⟩ := DS.may_ok hm
    simp only []
    cases e2 : s.least? p with
    | none => exact h
    | some d' =>
      obtain ⟨g0, g1, g2⟩ := DS.least?_some e2
      refine h.grow rfl rfl rfl (fun q hq => hq) ?_ (fun _ _ => rfl) h.o ?_
      · intro q e' o' hq
        show updF s.F p d' (some o) q e' = some o'
        unfold updF
        rw [if_neg]
        · exact hq
        · rintro ⟨rfl, rfl⟩; rw [g2] at hq; cases hq
      · intro q e' o' hq
        have hq : updF s.F p d' (some o) q e' = some o' := hq
        unfold updF at hq
        split at hq
        · rename_i e''
          simp at hq
          rw [e''.1, e''.2]
          exact ⟨hl, g0, g1, hq ▸ (h.f _ _ _ hF).2.2.2⟩
        · exact h.f _ _ _ hq

theorem DS.has_congr {s t : DS} {o : Nat} {p : Int} (h : ∀ d, t.F p d = s.F p d) : t.has o p = s.has o p := by
  unfold DS.has; simp only [h]
theorem DS.Bas.dropped {s : DS} (h : s.Bas) (p : Int) (f : Nat) : WF (dropR (s.R f) p) ∧ (dropR (s.R f) p).length ≤ 12 ∧ (∀ x, x ∈ dropR (s.R f) p → x ∈ s.R f ∧ x.p ≠ p) := by
  refine ⟨(without_all (h.wf f) p).1, ?_, ?_⟩
  · rw [dropR_filter (h.wf f)]
    exact Nat.le_trans (List.length_filter_le _ _) (h.len f)
  · intro x hx
    rw [dropR_filter (h.wf f), List.mem_filter] at hx
    exact ⟨hx.1, by simpa using hx.2⟩
theorem DS.Bas.gone {s : DS} (h : s.Bas) (p : Int) (hp : liveB s.L p = true) : (s.gone p).Bas := by
  have hL : ∀ q, q ≠ p → liveB s.L q = true → liveB (updL s.L p.toNat false) q = true := fun q hq hl => by
    unfold liveB updL at *
    simp only [Bool.and_eq_true, decide_eq_true_eq] at hl hp ⊢
    rw [if_neg (by omega)]; exact hl
  have hhas : ∀ o q, q ≠ p → (s.gone p).has o q = s.has o q := fun o q hq => DS.has_congr fun d => by
    show clearF s.F p q d = s.F q d
    unfold clearF; rw [if_neg hq]
  refine ⟨?_, h.o, fun f => (h.dropped p f).1, fun f => (h.dropped p f).2.1, ?_, ?_, ?_, ?_, List.Pairwise.sublist List.filter_sublist h.qn, ?_⟩
  · intro q d o hq
    have hq : clearF s.F p q d = some o := hq
    unfold clearF at hq
    split at hq
    · cases hq
    · rename_i hne
      obtain ⟨h1, h2⟩ := h.f _ _ _ hq
      exact ⟨hL q hne h1, h2⟩
  · intro f x hx
    obtain ⟨h1, h2⟩ := (h.dropped p f).2.2 x hx
    exact hL _ h2 (h.lv f x h1)
  · intro f x y hx hy
    exact h.nb f x y ((h.dropped p f).2.2 x hx).1 ((h.dropped p f).2.2 y hy).1
  · intro f x hx
    have hx : x ∈ (s.W f).filter fun w => (s.gone p).inUse w.o := hx
    rw [List.mem_filter] at hx
    obtain ⟨_, h2, h3⟩ := h.w f x hx.1
    exact ⟨hx.2, h2, h3⟩
  · intro f
    exact List.Pairwise.sublist List.filter_sublist (h.wn f)
  · intro a ha
    have ha : a ∈ s.Q.filter fun a => decide (a.p ≠ p) := ha
    rw [List.mem_filter] at ha
    have hne : a.p ≠ p := by simpa using ha.2
    obtain ⟨h1, h2⟩ := h.q a ha.1
    exact ⟨⟨hL _ hne h1.l, h1.k, h1.file, fun e => ⟨by rw [hhas _ _ hne]; exact (h1.wh e).1, (h1.wh e).2⟩, h1.rg⟩, h2⟩
theorem DS.Inv.kill {s : DS} (h : s.Inv) (p : Int) : (s.kill p).1.Inv := by
  unfold DS.kill
  split
  · exact h
  · rename_i hp
    exact (h.toBas.gone p (by simpa using hp)).settled
theorem DS.Bas.shut {s : DS} (h : s.Bas) {p d : Int} {o : Nat} (hw : s.waits p = false) : (s.shut p d o).Bas := by
  have hhas : ∀ o' q, q ≠ p → (s.shut p d o).has o' q = s.has o' q := fun o' q hq => DS.has_congr fun d' => by
    show updF s.F p d none q d' = s.F q d'
    unfold updF; rw [if_neg (fun e => hq e.1)]
  have hR : ∀ f, WF ((s.shut p d o).R f) ∧ ((s.shut p d o).R f).length ≤ 12 ∧ ∀ x, x ∈ (s.shut p d o).R f → x ∈ s.R f := fun f => by
    show WF (updR s.R _ _ f) ∧ (updR s.R _ _ f).length ≤ 12 ∧ ∀ x, x ∈ updR s.R _ _ f → x ∈ s.R f
    unfold updR
    split
    · rename_i e
      obtain ⟨h1, h2, h3⟩ := h.dropped p (s.O o)
      exact ⟨h1, h2, fun x hx => e ▸ (h3 x hx).1⟩
    · exact ⟨h.wf f, h.len f, fun x hx => hx⟩
  refine ⟨?_, h.o, fun f => (hR f).1, fun f => (hR f).2.1, fun f x hx => h.lv f x ((hR f).2.2 x hx), fun f x y hx hy => h.nb f x y ((hR f).2.2 x hx) ((hR f).2.2 y hy), ?_, ?_, h.qn, ?_⟩
  · intro q d' o' hq
    have hq : updF s.F p d none q d' = some o' := hq
    unfold updF at hq
    split at hq
    · cases hq
    · exact h.f _ _ _ hq
  · intro f x hx
    have hx : x ∈ (s.W f).filter fun w => (s.shut p d o).inUse w.o := hx
    rw [List.mem_filter] at hx
    obtain ⟨_, h2, h3⟩ := h.w f x hx.1
    exact ⟨hx.2, h2, h3⟩
  · intro f
    exact List.Pairwise.sublist List.filter_sublist (h.wn f)
  · intro a ha
    obtain ⟨h1, h2⟩ := h.q a ha
    have hne := DS.not_waits hw ha
    exact ⟨⟨h1.l, h1.k, h1.file, fun e => ⟨by rw [hhas _ _ hne]; exact (h1.wh e).1, (h1.wh e).2⟩, h1.rg⟩, h2⟩
theorem DS.Inv.close {s : DS} (h : s.Inv) (p d : Int) : (s.close p d).1.Inv := by
  unfold DS.close
  cases e : s.find p d with
  | error x => exact h
  | ok o =>
    obtain ⟨hm, _⟩ := DS.find_ok e
    exact (h.toBas.shut (DS.may_ok hm).2).settled

theorem DS.Inv.pend {s : DS} (h : s.Inv) {a : Ask} (ha : s.AskOk a) (hk : a.k ≠ 0) (hw : s.waits a.p = false) (hway : s.way a s.Q ≠ []) (hs : a.p ∉ (DS.stuck {s with Q := s.Q ++ [a]})) : DS.Inv {s with Q := s.Q ++ [a]} := by
  refine ⟨⟨h.f, h.o, h.wf, h.len, h.lv, h.nb, h.w, h.wn, ?_, ?_⟩, ?_, ?_⟩
  · show (s.Q ++ [a]).Pairwise fun a b => a.p ≠ b.p
    rw [List.pairwise_append]
    refine ⟨h.qn, by simp, fun x hx y hy => ?_⟩
    simp at hy; subst hy
    exact DS.not_waits hw hx
  · intro b hb
    have hb : b ∈ s.Q ++ [a] := hb
    rw [List.mem_append] at hb
    rcases hb with hb | hb
    · exact ⟨(h.q b hb).1.congr rfl rfl rfl, (h.q b hb).2⟩
    · simp at hb; subst hb
      exact ⟨ha.congr rfl rfl rfl, hk⟩
  · intro i b hb
    have hb : (s.Q ++ [a])[i]? = some b := hb
    show s.way b ((s.Q ++ [a]).take i) ≠ []
    rcases Nat.lt_or_ge i s.Q.length with hi | hi
    · rw [List.getElem?_append_left hi] at hb
      rw [List.take_append_of_le_length (by omega)]
      exact h.free i b hb
    · rw [List.getElem?_append_right hi] at hb
      have hi' : i - s.Q.length = 0 := by
        cases e : i - s.Q.length with
        | zero => rfl
        | succ n => rw [e] at hb; simp at hb
      rw [hi'] at hb
      simp at hb; subst hb
      have : i = s.Q.length := by omega
      rw [this, List.take_left']
      · exact hway
      · rfl
  · refine nil_of_not_mem fun p hp => ?_
    have hst : s.IsStuck (· ∈ DS.stuck {s with Q := s.Q ++ [a]}) := fun q hq => by
      obtain ⟨i, b, h1, h2, c, h3, h4⟩ := DS.stuck_is {s with Q := s.Q ++ [a]} q hq
      have h1 : (s.Q ++ [a])[i]? = some b := h1
      have h3 : c ∈ s.way b ((s.Q ++ [a]).take i) := h3
      rcases Nat.lt_or_ge i s.Q.length with hi | hi
      · rw [List.getElem?_append_left hi] at h1
        rw [List.take_append_of_le_length (by omega)] at h3
        exact ⟨i, b, h1, h2, c, h3, h4⟩
      · rw [List.getElem?_append_right hi] at h1
        have hi' : i - s.Q.length = 0 := by
          cases e : i - s.Q.length with
          | zero => rfl
          | succ n => rw [e] at h1; simp at h1
        rw [hi'] at h1
        simp at h1; subst h1
        rw [h2] at hs
        exact absurd hq hs
    have := DS.stuck_greatest hst hp
    rw [h.stk] at this; cases this
theorem DS.Inv.ask {s : DS} (h : s.Inv) {a : Ask} (ha : s.AskOk a) (hw : s.waits a.p = false) (wait : Bool) : (s.ask a wait).1.Inv := by
  unfold DS.ask
  split
  · rename_i hc
    split
    · exact h
    · refine (h.toBas.take ha ?_).settled
      rcases hc with hc | hc
      · exact DS.Clear.of_zero hc
      · exact DS.Clear.of_way h.toBas hc
  · rename_i hc
    rw [not_or] at hc
    split
    · exact h
    · split
      · exact h
      · rename_i hs
        exact h.pend ha hc.1 hw hc.2 hs
theorem kindB_ok {k : Int} (h : ¬ kindB k = false) : k = 0 ∨ k = 1 ∨ k = 2 := by
  unfold kindB at h
  simp at h
  omega
theorem DS.AskOk.lock {s : DS} (h : s.Bas) {p d k f l : Int} {o : Nat} (e : s.find p d = .ok o) (hk : ¬ kindB k = false) (hr : ¬ badS f l = true) : s.AskOk ⟨p, k, s.O o, false, o, fromS f l, toS f l⟩ := by
  obtain ⟨hm, d0, d1, hF⟩ := DS.find_ok e
  exact ⟨(DS.may_ok hm).1, kindB_ok hk, h.o o, (fun e => by cases e), (fun _ => bounds_ok (by simpa using hr))⟩
theorem DS.AskOk.whole {s : DS} (h : s.Bas) {p d k : Int} {o : Nat} (e : s.find p d = .ok o) (hk : ¬ kindB k = false) : s.AskOk ⟨p, k, s.O o, true, o, 0, 0⟩ := by
  obtain ⟨hm, d0, d1, hF⟩ := DS.find_ok e
  exact ⟨(DS.may_ok hm).1, kindB_ok hk, h.o o, (fun _ => ⟨DS.has_iff.2 ⟨d, mem_ds5.2 ⟨d0, d1⟩, hF⟩, rfl⟩), (fun e => by cases e)⟩
theorem DS.Inv.lock {s : DS} (h : s.Inv) (p d k f l : Int) (wait : Bool) : (s.lock p d k f l wait).1.Inv := by
  unfold DS.lock
  cases e : s.find p d with
  | error x => exact h
  | ok o =>
    simp only []
    split
    · exact h
    · rename_i hk
      split
      · exact h
      · rename_i hr
        exact h.ask (DS.AskOk.lock h.toBas e hk hr) (DS.may_ok (DS.find_ok e).1).2 wait
theorem DS.Inv.whole {s : DS} (h : s.Inv) (p d k : Int) (wait : Bool) : (s.whole p d k wait).1.Inv := by
  unfold DS.whole
  cases e : s.find p d with
  | error x => exact h
  | ok o =>
    simp only []
    split
    · exact h
    · rename_i hk
      exact h.ask (DS.AskOk.whole h.toBas e hk) (DS.may_ok (DS.find_ok e).1).2 wait
theorem DS.Inv.step {s : DS} (h : s.Inv) (c : Cl) : (s.step c).1.Inv := by
  cases c with
  | fork p => exact h.fork p
  | kill p => exact h.kill p
  | opn p f => exact h.opn p f
  | dup p d => exact h.dup p d
  | close p d => exact h.close p d
  | lock p d k f l w => exact h.lock p d k f l w
  | test p d k f l => exact h
  | whole p d k w => exact h.whole p d k w
theorem DS.Inv.new : DS.new.Inv where
  f := fun p d o h => by cases h
  o := fun _ => by show 0 < 3; decide
  wf := fun _ => ⟨List.Pairwise.nil, (fun _ h => by cases h), List.Pairwise.nil⟩
  len := fun _ => by show 0 ≤ 12; decide
  lv := fun _ _ h => by cases h
  nb := fun _ _ _ h => by cases h
  w := fun _ _ h => by cases h
  wn := fun _ => List.Pairwise.nil
  qn := List.Pairwise.nil
  q := fun _ h => by cases h
  free := fun i a h => by simp [DS.new] at h
  stk := rfl

end Go.Proofs.YtaicdjhblbobbaaGreat

/- Which of those that wait are stuck, as the program finds them: who is not bound is left out, again and again. -/
namespace Go.Proofs.YtaicdjhblbobbaaGreat

/-- One that waits, and for each thing in its way those who could let it go. -/
abbrev Wt := Int × List (List Int)
def Wt.bound (ps : List Int) (x : Wt) : Bool := x.2.any fun c => c.all fun q => decide (q ∈ ps)
def boundF (l : List Wt) : List Wt := l.filter (Wt.bound (l.map (·.1)))
def greatN : Nat → List Wt → List Wt
  | 0, l => l
  | n + 1, l => greatN n (boundF l)
def greatF (l : List Wt) : List Wt := greatN l.length l
theorem boundF_len (l : List Wt) : (boundF l).length ≤ l.length := List.length_filter_le _ _
theorem boundF_same {l : List Wt} (h : (boundF l).length = l.length) : boundF l = l := List.filter_eq_self.2 (List.length_filter_eq_length_iff.1 h)
theorem greatN_same {l : List Wt} (h : boundF l = l) : ∀ n, greatN n l = l
  | 0 => rfl
  | n + 1 => by unfold greatN; rw [h]; exact greatN_same h n
theorem greatN_add : ∀ (a b : Nat) (l : List Wt), greatN (a + b) l = greatN b (greatN a l)
  | 0, b, l => by simp [greatN]
  | a + 1, b, l => by rw [Nat.add_right_comm]; exact greatN_add a b (boundF l)
theorem greatN_succ (n : Nat) (l : List Wt) : greatN (n + 1) l = boundF (greatN n l) := greatN_add n 1 l
theorem greatN_fix : ∀ (n : Nat) (l : List Wt), l.length ≤ n → boundF (greatN n l) = greatN n l
  | 0, l, h => by
    have : l = [] := List.eq_nil_of_length_eq_zero (by omega)
    subst this; rfl
  | n + 1, l, h => by
    by_cases he : (boundF l).length = l.length
    · rw [greatN_same (boundF_same he)]; exact boundF_same he
    · have := boundF_len l
      exact greatN_fix n (boundF l) (by omega)
theorem greatF_fix (l : List Wt) : boundF (greatF l) = greatF l := greatN_fix _ _ (Nat.le_refl _)
theorem greatF_done {l : List Wt} {n : Nat} (hn : n ≤ l.length) (h : boundF (greatN n l) = greatN n l) : greatF l = greatN n l := by
  unfold greatF
  obtain ⟨k, hk⟩ : ∃ k, l.length = n + k := ⟨l.length - n, by omega⟩
  rw [hk, greatN_add, greatN_same h]
theorem greatN_filter : ∀ (n : Nat) (l : List Wt), ∃ f : Wt → Bool, greatN n l = l.filter f
  | 0, l => ⟨fun _ => true, (List.filter_eq_self.2 fun _ _ => rfl).symm⟩
  | n + 1, l => by
    obtain ⟨f, hf⟩ := greatN_filter n (boundF l)
    refine ⟨fun x => Wt.bound (l.map (·.1)) x && f x, ?_⟩
    unfold greatN
    rw [hf, boundF, List.filter_filter]
    exact List.filter_congr fun x _ => by rw [Bool.and_comm]
theorem greatF_sub {l : List Wt} {x : Wt} (h : x ∈ greatF l) : x ∈ l := by
  obtain ⟨f, hf⟩ := greatN_filter l.length l
  unfold greatF at h
  rw [hf] at h
  exact (List.mem_filter.1 h).1

/-- The list has, of each one that waits, what is in its way. -/
structure Wts (s : DS) (l : List Wt) : Prop where
  len : l.length = s.Q.length
  at' : ∀ i a x, s.Q[i]? = some a → l[i]? = some x → x.1 = a.p ∧ ∀ c, c ∈ x.2 ↔ c ∈ s.way a (s.Q.take i)
theorem Wts.ask {s : DS} {l : List Wt} (h : Wts s l) {i : Nat} {x : Wt} (hx : l[i]? = some x) : ∃ a, s.Q[i]? = some a ∧ x.1 = a.p ∧ ∀ c, c ∈ x.2 ↔ c ∈ s.way a (s.Q.take i) := by
  have hi : i < l.length := (List.getElem?_eq_some_iff.1 hx).1
  have ha : s.Q[i]? = some (s.Q[i]'(by rw [← h.len]; exact hi)) := List.getElem?_eq_getElem _
  exact ⟨_, ha, h.at' i _ x ha hx⟩
theorem Wts.wt {s : DS} {l : List Wt} (h : Wts s l) {i : Nat} {a : Ask} (ha : s.Q[i]? = some a) : ∃ x, l[i]? = some x ∧ x.1 = a.p ∧ ∀ c, c ∈ x.2 ↔ c ∈ s.way a (s.Q.take i) := by
  have hi : i < s.Q.length := (List.getElem?_eq_some_iff.1 ha).1
  have hx : l[i]? = some (l[i]'(by rw [h.len]; exact hi)) := List.getElem?_eq_getElem _
  exact ⟨_, hx, h.at' i a _ ha hx⟩
def DS.Ones (s : DS) : Prop := (s.Q.map (·.p)).Nodup
theorem DS.Ones.same {s : DS} (h : s.Ones) {i j : Nat} {a b : Ask} (hi : s.Q[i]? = some a) (hj : s.Q[j]? = some b) (e : a.p = b.p) : i = j := by
  have hi' : (s.Q.map (·.p))[i]? = some a.p := by rw [List.getElem?_map, hi]; rfl
  have hj' : (s.Q.map (·.p))[j]? = some a.p := by rw [List.getElem?_map, hj, e]; rfl
  have hlt := (List.getElem?_eq_some_iff.1 hi').1
  exact (List.getElem?_inj hlt h).1 (hi'.trans hj'.symm)
theorem greatF_stuck {s : DS} (ho : s.Ones) {l : List Wt} (h : Wts s l) {x : Wt} : x ∈ greatF l ↔ x ∈ l ∧ x.1 ∈ s.stuck := by
  constructor
  · intro hx
    refine ⟨greatF_sub hx, ?_⟩
    refine DS.stuck_greatest (X := fun p => p ∈ (greatF l).map (·.1)) ?_ (List.mem_map.2 ⟨x, hx, rfl⟩)
    intro p hp
    obtain ⟨y, hy, rfl⟩ := List.mem_map.1 hp
    obtain ⟨i, hi⟩ := List.mem_iff_getElem?.1 (greatF_sub hy)
    obtain ⟨a, ha, e1, e2⟩ := h.ask hi
    have hb : y ∈ boundF (greatF l) := by rw [greatF_fix]; exact hy
    have hb2 := (List.mem_filter.1 hb).2
    unfold Wt.bound at hb2
    obtain ⟨c, hc, hall⟩ := List.any_eq_true.1 hb2
    exact ⟨i, a, ha, e1.symm, c, (e2 c).1 hc, fun q hq => by simpa using List.all_eq_true.1 hall q hq⟩
  · rintro ⟨hx, hs⟩
    have key : ∀ (n : Nat) (m : List Wt), (∀ y, y ∈ l → y.1 ∈ s.stuck → y ∈ m) → ∀ y, y ∈ l → y.1 ∈ s.stuck → y ∈ greatN n m := by
      intro n
      induction n with
      | zero => exact fun m hm => hm
      | succ n ih =>
        intro m hm
        refine ih (boundF m) fun y hy hys => ?_
        refine List.mem_filter.2 ⟨hm y hy hys, ?_⟩
        obtain ⟨i, a, ha, e, c, hc, hq⟩ := s.stuck_is _ hys
        obtain ⟨j, hj⟩ := List.mem_iff_getElem?.1 hy
        obtain ⟨b, hb, e1, e2⟩ := h.ask hj
        obtain rfl := ho.same ha hb (e.trans e1)
        obtain rfl : a = b := by rw [ha] at hb; exact Option.some.inj hb
        unfold Wt.bound
        refine List.any_eq_true.2 ⟨c, (e2 c).2 hc, List.all_eq_true.2 fun q hqc => ?_⟩
        have hqs := hq q hqc
        obtain ⟨k, b, hk, ek⟩ := DS.stuck_waits hqs
        obtain ⟨z, hz, ez, _⟩ := h.wt hk
        have : q ∈ m.map (·.1) := List.mem_map.2 ⟨z, hm z (List.mem_of_getElem? hz) (by rw [ez, ek]; exact hqs), by rw [ez, ek]⟩
        simpa using this
    exact key _ l (fun y hy _ => hy) x hx hs
/-- The last of the stuck ones. -/
def lastP (l : List Wt) : Option Int := ((greatF l).getLast?).map (·.1)
theorem greatF_eq {s : DS} (ho : s.Ones) {l : List Wt} (h : Wts s l) : greatF l = l.filter fun x => decide (x.1 ∈ s.stuck) := by
  obtain ⟨f, hf⟩ := greatN_filter l.length l
  have hg : greatF l = l.filter f := hf
  rw [hg]
  refine List.filter_congr fun x hx => ?_
  have := greatF_stuck ho h (x := x)
  rw [hg] at this
  simp only [List.mem_filter, hx, true_and] at this
  rw [Bool.eq_iff_iff, this]
  simp
theorem lastP_eq {s : DS} (ho : s.Ones) {l : List Wt} (h : Wts s l) : lastP l = s.last?.map fun i => (s.Q[i]?.getD default).p := by
  unfold lastP
  rw [greatF_eq ho h]
  cases hl : s.last? with
  | none =>
    rw [DS.last?_none hl]
    simp
  | some i =>
    obtain ⟨a, ha, hs, hlast⟩ := DS.last?_some hl
    obtain ⟨x, hx, e1, _⟩ := h.wt ha
    have hi : i < l.length := (List.getElem?_eq_some_iff.1 hx).1
    have hsplit : l = l.take i ++ x :: l.drop (i + 1) := by
      have : l[i] = x := (List.getElem?_eq_some_iff.1 hx).2
      rw [← this, List.getElem_cons_drop, List.take_append_drop]
    have hdrop : (l.drop (i + 1)).filter (fun x => decide (x.1 ∈ s.stuck)) = [] := by
      refine List.filter_eq_nil_iff.2 fun y hy => ?_
      obtain ⟨j, hj⟩ := List.mem_iff_getElem?.1 hy
      rw [List.getElem?_drop] at hj
      obtain ⟨b, hb, eb, _⟩ := h.ask hj
      have := hlast (i + 1 + j) b (by omega) hb
      simpa [eb] using this
    rw [hsplit, List.filter_append, List.filter_cons, if_pos (by simpa [e1] using hs), hdrop]
    simp [ha, e1]
theorem lastP_mem {s : DS} (ho : s.Ones) {l : List Wt} (h : Wts s l) {a : Ask} (ha : s.Q.getLast? = some a) : lastP l = some a.p ↔ a.p ∈ s.stuck := by
  rw [lastP_eq ho h]
  have hn : s.Q[s.Q.length - 1]? = some a := by rw [← List.getLast?_eq_getElem?]; exact ha
  constructor
  · intro hs
    cases hl : s.last? with
    | none => rw [hl] at hs; cases hs
    | some i =>
      rw [hl] at hs
      obtain ⟨b, hb, hs', _⟩ := DS.last?_some hl
      simp [hb] at hs
      rw [← hs]; exact hs'
  · intro hs
    cases hl : s.last? with
    | none => rw [DS.last?_none hl] at hs; cases hs
    | some i =>
      obtain ⟨b, hb, hs', hlast⟩ := DS.last?_some hl
      have hi : i < s.Q.length := (List.getElem?_eq_some_iff.1 hb).1
      by_cases he : i < s.Q.length - 1
      · exact absurd hs (hlast _ a he hn)
      · have : i = s.Q.length - 1 := by omega
        subst this
        simp [hn]
end Go.Proofs.YtaicdjhblbobbaaGreat

/- Scripts of calls on a new Kernel of the model, played by computation. -/
namespace Go.Proofs.YtaicdjhblbobbaaGreat

/-- The state behind the calls. -/
def stC (c : List Cl) : DS := (DS.new.steps c).2
/-- The reply of one call more. -/
def rpC (c : List Cl) (x : Cl) : Rp := ((stC c).step x).2
theorem steps_append (s : DS) : ∀ (a b : List Cl), s.steps (a ++ b) = ((s.steps a).1 ++ ((s.steps a).2.steps b).1, ((s.steps a).2.steps b).2)
  | [], b => rfl
  | x :: a, b => by
    simp only [List.cons_append, DS.steps]
    rw [steps_append (s.step x).1 a b]
theorem stC_snoc (c : List Cl) (x : Cl) : stC (c ++ [x]) = ((stC c).step x).1 := by
  unfold stC
  rw [steps_append]
  rfl
/-- What is refused changes nothing. -/
theorem DS.ask_err {s : DS} {a : Ask} {wait : Bool} (h0 : (s.ask a wait).2.e ≠ 0) (h1 : (s.ask a wait).2.e ≠ 11) : (s.ask a wait).1 = s := by
  unfold DS.ask at *
  split at h0
  · split at h0
    · rename_i h2 h3
      rw [if_pos h2, if_pos h3]
    · exact absurd rfl h0
  · rename_i h2
    rw [if_neg h2] at h1 ⊢
    split at h1
    · rename_i h3; rw [if_pos h3]
    · rename_i h3
      rw [if_neg h3]
      split at h1
      · rename_i h4; rw [if_pos h4]
      · exact absurd rfl h1
theorem DS.step_err {s : DS} {c : Cl} (h0 : (s.step c).2.e ≠ 0) (h1 : (s.step c).2.e ≠ 11) : (s.step c).1 = s := by
  cases c with
  | fork p =>
    simp only [DS.step, DS.fork] at *
    split at h0
    · rename_i h; rw [if_pos h]
    · rename_i h
      rw [if_neg h]
      cases e : ps6.find? fun c => !s.L c.toNat with
      | none => rfl
      | some c => rw [e] at h0; exact absurd rfl h0
  | kill p =>
    simp only [DS.step, DS.kill] at *
    split at h0
    · rename_i h; rw [if_pos h]
    · exact absurd rfl h0
  | opn p f =>
    simp only [DS.step, DS.opn] at *
    split at h0
    · rename_i h; rw [if_pos h]
    · rename_i h
      rw [if_neg h]
      split at h0
      · rename_i h2; rw [if_pos h2]
      · rename_i h2
        rw [if_neg h2]
        cases e : s.least? p with
        | none => rfl
        | some c => rw [e] at h0; exact absurd rfl h0
  | dup p d =>
    simp only [DS.step, DS.dup] at *
    cases e : s.find p d with
    | error x => rfl
    | ok o =>
      rw [e] at h0
      simp only [] at h0 ⊢
      cases e2 : s.least? p with
      | none => rfl
      | some c => rw [e2] at h0; exact absurd rfl h0
  | close p d =>
    simp only [DS.step, DS.close] at *
    cases e : s.find p d with
    | error x => rfl
    | ok o => rw [e] at h0; exact absurd rfl h0
  | lock p d k f l w =>
    simp only [DS.step, DS.lock] at *
    cases e : s.find p d with
    | error x => rfl
    | ok o =>
      rw [e] at h0 h1
      simp only [] at h0 h1 ⊢
      split at h0
      · rename_i h2; rw [if_pos h2]
      · rename_i h2
        rw [if_neg h2] at h1 ⊢
        split at h0
        · rename_i h3; rw [if_pos h3]
        · rename_i h3
          rw [if_neg h3] at h1 ⊢
          exact DS.ask_err h0 h1
  | test p d k f l => rfl
  | whole p d k w =>
    simp only [DS.step, DS.whole] at *
    cases e : s.find p d with
    | error x => rfl
    | ok o =>
      rw [e] at h0 h1
      simp only [] at h0 h1 ⊢
      split at h0
      · rename_i h2; rw [if_pos h2]
      · rename_i h2
        rw [if_neg h2] at h1 ⊢
        exact DS.ask_err h0 h1
theorem stC_err {c : List Cl} {x : Cl} {e : Int} (h : rpC c x = rerr e) (h0 : e ≠ 0) (h1 : e ≠ 11) : ((stC c).step x).1 = stC c := by
  unfold rpC at h
  exact DS.step_err (by rw [h]; exact h0) (by rw [h]; exact h1)
end Go.Proofs.YtaicdjhblbobbaaGreat
