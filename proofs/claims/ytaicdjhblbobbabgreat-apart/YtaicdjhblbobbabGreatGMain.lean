/- The program answers as the model: each call, over the Kernel in memory. -/
import Derived.Test.YtaicdjhblbobbabGreatGSee
import Derived.Test.YtaicdjhblbobbabGreatGKill
import Derived.Test.YtaicdjhblbobbabGreatGCall
namespace Go.Proofs.YtaicdjhblbobbabGreat
open Go.RowKit Go.Lib

section
variable {w : World} {kb tb mb : Nat} {P : Nat → Prop} {ι : Nat → Nat} {s : DS} {rv wv : Nat → Value} {qv : Value} {B : Nat}
/-- A box that was made is there still. -/
theorem kp_cell {W0 W : World} {b : Nat} {v : Value} (h : Kp [kb] W0 W) (hb : b < W0.heap.size) (hn : b ≠ kb) (hc : W0.cell? ⟨b, 0, none⟩ = some v) : W.cell? ⟨b, 0, none⟩ = some v :=
  (World.cell?_of_block (w := W0) (a := ⟨b, 0, none⟩) (h.block b hb (by simpa using hn))).trans hc
theorem Kp.heap {bs : List Nat} {W0 W : World} (h : Kp bs W0 W) {b : Nat} (hb : b < W0.heap.size) (hn : b ∉ bs) : W.heap[b]? = W0.heap[b]? := h.block b hb hn

theorem Fork_any (h : KV w kb tb mb 0 P ι s rv wv qv) (hP : ∀ b, B ≤ b → P b) (hB : B ≤ w.heap.size) (hinv : s.Inv) (p : Int) :
    Calls Tryz.prog 18 #[.pointer (some ⟨kb, 0, none⟩), .int .i64 p] w fun e w' => Done w w' kb tb mb P e (s.fork p).2 (s.fork p).1 := by
  obtain ⟨hbl, hsz, c0, c1⟩ := W0Fork_cells w kb p
  have h0 := h.below hbl
  have hk := h.lt
  have ht := h.t.lt
  have hm := h.m.lt
  refine Fork_out p hk ht hm ?_
  cases hw : s.waits p
  · obtain ⟨hb, he⟩ := fork_go hinv hw
    rw [he]
    refine call_go h0 hP (by omega) p 35 _ (by intro args w; simp [go_sem]) _ _ _ hb hw (fun W hkp hkv => ?_)
    have hzW := hkp.size
    refine Fork1_any (tb := tb) (kb := kb) p (kp_cell hkp (by omega) (by omega) c0) (kp_cell hkp (by omega) (by omega) c1) hkv.c2 (fun W' hW' => ?_)
    obtain ⟨n, rfl⟩ := hW'
    have hd : Below W.heap.size W (W.drewN n) := below_drewN (Below.refl _ _) n
    refine (fork_in (hkv.below hd) hinv.toBas p).mono ?_
    rintro e w' ⟨rfl, hkv', hkp'⟩
    refine ⟨rfl, ⟨⟨ι, rv, wv, qv, hkv'⟩, (Kp.below hd).trans (hkp'.mono (by simp))⟩, fun b hb => ?_⟩
    have hb' : b < W.heap.size ∧ b ≠ tb ∧ b ≠ mb := by
      simp only [List.mem_cons, List.not_mem_nil, or_false] at hb
      rcases hb with rfl | rfl | rfl
      · exact ⟨hkv.lt, h.ne1, h.ne2⟩
      all_goals omega
    exact hkp'.block b hb'.1 (by simp [hb'.2])
  · rw [fork_wait hinv hw]
    exact call_wait h0 hP (by omega) hinv.toBas p _ hw
theorem Open_any (h : KV w kb tb mb 0 P ι s rv wv qv) (hP : ∀ b, B ≤ b → P b) (hB : B ≤ w.heap.size) (hinv : s.Inv) (p f : Int) :
    Calls Tryz.prog 9 #[.pointer (some ⟨kb, 0, none⟩), .int .i64 p, .int .i64 f] w fun e w' => Done w w' kb tb mb P e (s.opn p f).2 (s.opn p f).1 := by
  obtain ⟨hbl, hsz, c0, c1, c2⟩ := W0Open_cells w kb p f
  have h0 := h.below hbl
  have hk := h.lt
  have ht := h.t.lt
  have hm := h.m.lt
  refine Open_out p f hk ht hm ?_
  cases hw : s.waits p
  · obtain ⟨hb, he⟩ := opn_go hinv f hw
    rw [he]
    refine call_go h0 hP (by omega) p 22 _ (by intro args w; simp [go_sem]) _ _ _ hb hw (fun W hkp hkv => ?_)
    have hzW := hkp.size
    refine Open1_any (tb := tb) (kb := kb) p f (kp_cell hkp (by omega) (by omega) c0) (kp_cell hkp (by omega) (by omega) c1) (kp_cell hkp (by omega) (by omega) c2) hkv.c2 (fun W' hW' => ?_)
    obtain ⟨n, rfl⟩ := hW'
    have hd : Below W.heap.size W (W.drewN n) := below_drewN (Below.refl _ _) n
    refine (opn_in (hkv.below hd) hP (by have := hd.size; omega) p f).mono ?_
    rintro e w' ⟨rfl, ⟨ι', hkv'⟩, hkp'⟩
    refine ⟨rfl, ⟨⟨ι', rv, wv, qv, hkv'⟩, (Kp.below hd).trans (hkp'.mono (by simp))⟩, fun b hb => ?_⟩
    have hb' : b < W.heap.size ∧ b ≠ tb ∧ b ≠ mb := by
      simp only [List.mem_cons, List.not_mem_nil, or_false] at hb
      rcases hb with rfl | rfl | rfl | rfl
      · exact ⟨hkv.lt, h.ne1, h.ne2⟩
      all_goals omega
    exact hkp'.block b hb'.1 (by simp [hb'.2])
  · rw [opn_wait hinv f hw]
    exact call_wait h0 hP (by omega) hinv.toBas p _ hw
theorem Dup_any (h : KV w kb tb mb 0 P ι s rv wv qv) (hP : ∀ b, B ≤ b → P b) (hB : B ≤ w.heap.size) (hinv : s.Inv) (p d : Int) :
    Calls Tryz.prog 27 #[.pointer (some ⟨kb, 0, none⟩), .int .i64 p, .int .i64 d] w fun e w' => Done w w' kb tb mb P e (s.dup p d).2 (s.dup p d).1 := by
  obtain ⟨hbl, hsz, c0, c1, c2⟩ := W0Dup_cells w kb p d
  have h0 := h.below hbl
  have hk := h.lt
  have ht := h.t.lt
  have hm := h.m.lt
  refine Dup_out p d hk ht hm ?_
  cases hw : s.waits p
  · obtain ⟨hb, he⟩ := dup_go hinv d hw
    rw [he]
    refine call_go h0 hP (by omega) p 46 _ (by intro args w; simp [go_sem]) _ _ _ hb hw (fun W hkp hkv => ?_)
    have hzW := hkp.size
    refine Dup1_any (tb := tb) (kb := kb) p d (kp_cell hkp (by omega) (by omega) c0) (kp_cell hkp (by omega) (by omega) c1) (kp_cell hkp (by omega) (by omega) c2) hkv.c2 (fun W' hW' => ?_)
    obtain ⟨n, rfl⟩ := hW'
    have hd : Below W.heap.size W (W.drewN n) := below_drewN (Below.refl _ _) n
    refine (dup_in (hkv.below hd) p d).mono ?_
    rintro e w' ⟨rfl, hkv', hkp'⟩
    refine ⟨rfl, ⟨⟨ι, rv, wv, qv, hkv'⟩, (Kp.below hd).trans (hkp'.mono (by simp))⟩, fun b hb => ?_⟩
    have hb' : b < W.heap.size ∧ b ≠ tb ∧ b ≠ mb := by
      simp only [List.mem_cons, List.not_mem_nil, or_false] at hb
      rcases hb with rfl | rfl | rfl | rfl
      · exact ⟨hkv.lt, h.ne1, h.ne2⟩
      all_goals omega
    exact hkp'.block b hb'.1 (by simp [hb'.2])
  · rw [dup_wait hinv d hw]
    exact call_wait h0 hP (by omega) hinv.toBas p _ hw
theorem Close_any (h : KV w kb tb mb 0 P ι s rv wv qv) (hP : ∀ b, B ≤ b → P b) (hB : B ≤ w.heap.size) (hinv : s.Inv) (p d : Int) :
    Calls Tryz.prog 28 #[.pointer (some ⟨kb, 0, none⟩), .int .i64 p, .int .i64 d] w fun e w' => Done w w' kb tb mb P e (s.close p d).2 (s.close p d).1 := by
  obtain ⟨hbl, hsz, c0, c1, c2⟩ := W0Close_cells w kb p d
  have h0 := h.below hbl
  have hk := h.lt
  refine Close_out p d hk h.t.lt h.m.lt ?_
  cases hw : s.waits p
  · obtain ⟨hb, he⟩ := close_go hinv d hw
    rw [he]
    refine call_go h0 hP (by omega) p 48 _ (by intro args w; simp [go_sem]) _ _ _ hb hw (fun W hkp hkv => ?_)
    have hzW := hkp.size
    refine Close1_any (kb := kb) p d (kp_cell hkp (by omega) (by omega) c0) (kp_cell hkp (by omega) (by omega) c1) (kp_cell hkp (by omega) (by omega) c2) ?_
    have hE : findE s.L (renF ι s.F) p d = if liveB s.L p = false then 1 else if s.F p d = none then 5 else 0 := by unfold findE; simp only [renF_none]
    unfold DS.shut0
    cases hl : liveB s.L p
    · rw [hl] at hE
      simp only [if_true] at hE ⊢
      refine (shut_no hkv p d (by rw [hE]; decide)).mono ?_
      rintro e w' ⟨rfl, rfl⟩
      exact ⟨by rw [hE], ⟨ι, rv, wv, qv, hkv⟩, Kp.refl _ _⟩
    · rw [hl] at hE
      simp only [Bool.true_eq_false, if_false] at hE ⊢
      cases hf : s.F p d with
      | none =>
        rw [hf] at hE
        simp only [if_true] at hE
        refine (shut_no hkv p d (by rw [hE]; decide)).mono ?_
        rintro e w' ⟨rfl, rfl⟩
        exact ⟨by rw [hE], ⟨ι, rv, wv, qv, hkv⟩, Kp.refl _ _⟩
      | some o =>
        refine (shut_yes hkv hP (by omega) hinv.toBas p d hl hw hf).mono ?_
        rintro e w' ⟨rfl, ⟨rv', wv', hkv'⟩, hkp'⟩
        exact ⟨rfl, ⟨ι, rv', wv', qv, hkv'⟩, hkp'⟩
  · rw [close_wait hinv d hw]
    exact call_wait h0 hP (by omega) hinv.toBas p _ hw
theorem Lock_any (h : KV w kb tb mb 0 P ι s rv wv qv) (hP : ∀ b, B ≤ b → P b) (hB : B ≤ w.heap.size) (hinv : s.Inv) (p d k f l : Int) (wt : Bool) :
    Calls Tryz.prog 7 #[.pointer (some ⟨kb, 0, none⟩), .int .i64 p, .int .i64 d, .int .i64 k, .int .i64 f, .int .i64 l, .bool wt] w fun e w' => Done w w' kb tb mb P e (s.lock p d k f l wt).2 (s.lock p d k f l wt).1 := by
  obtain ⟨hbl, hsz, c0, c1, c2, c3, c4, c5, c6⟩ := W0Lock_cells w kb p d k f l wt
  have h0 := h.below hbl
  have hk := h.lt
  refine Lock_out p d k f l wt hk h.t.lt h.m.lt ?_
  cases hw : s.waits p
  · obtain ⟨hb, he⟩ := lock_go hinv d k f l wt hw
    rw [he]
    refine call_go h0 hP (by omega) p 20 _ (by intro args w; simp [go_sem]) _ _ _ hb hw (fun W hkp hkv => ?_)
    have hzW := hkp.size
    refine Lock1_any (kb := kb) p d k f l wt (kp_cell hkp (by omega) (by omega) c0) (kp_cell hkp (by omega) (by omega) c1) (kp_cell hkp (by omega) (by omega) c2) (kp_cell hkp (by omega) (by omega) c3) (kp_cell hkp (by omega) (by omega) c4) (kp_cell hkp (by omega) (by omega) c5) (kp_cell hkp (by omega) (by omega) c6) ?_
    refine (lock_any hkv hP (by omega) hinv p d k f l wt hw).mono ?_
    rintro e w' ⟨rfl, ⟨rv', wv', qv', hkv'⟩, hkp'⟩
    exact ⟨rfl, ⟨ι, rv', wv', qv', hkv'⟩, hkp'.mono (by simp)⟩
  · rw [lock_wait hinv d k f l wt hw]
    exact call_wait h0 hP (by omega) hinv.toBas p _ hw
theorem Whole_any (h : KV w kb tb mb 0 P ι s rv wv qv) (hP : ∀ b, B ≤ b → P b) (hB : B ≤ w.heap.size) (hinv : s.Inv) (p d k : Int) (wt : Bool) :
    Calls Tryz.prog 10 #[.pointer (some ⟨kb, 0, none⟩), .int .i64 p, .int .i64 d, .int .i64 k, .bool wt] w fun e w' => Done w w' kb tb mb P e (s.whole p d k wt).2 (s.whole p d k wt).1 := by
  obtain ⟨hbl, hsz, c0, c1, c2, c3, c4⟩ := W0Whole_cells w kb p d k wt
  have h0 := h.below hbl
  have hk := h.lt
  refine Whole_out p d k wt hk h.t.lt h.m.lt ?_
  cases hw : s.waits p
  · obtain ⟨hb, he⟩ := whole_go hinv d k wt hw
    rw [he]
    refine call_go h0 hP (by omega) p 24 _ (by intro args w; simp [go_sem]) _ _ _ hb hw (fun W hkp hkv => ?_)
    have hzW := hkp.size
    refine Whole1_any (kb := kb) p d k wt (kp_cell hkp (by omega) (by omega) c0) (kp_cell hkp (by omega) (by omega) c1) (kp_cell hkp (by omega) (by omega) c2) (kp_cell hkp (by omega) (by omega) c3) (kp_cell hkp (by omega) (by omega) c4) ?_
    refine (whole_any hkv hP (by omega) hinv p d k wt hw).mono ?_
    rintro e w' ⟨rfl, ⟨rv', wv', qv', hkv'⟩, hkp'⟩
    exact ⟨rfl, ⟨ι, rv', wv', qv', hkv'⟩, hkp'.mono (by simp)⟩
  · rw [whole_wait hinv d k wt hw]
    exact call_wait h0 hP (by omega) hinv.toBas p _ hw
end
end Go.Proofs.YtaicdjhblbobbabGreat

/- The relation of a Kernel in memory to a state of the model, and what the calls leave of it. -/
namespace Go.Proofs.YtaicdjhblbobbabGreat
open Go.RowKit Go.Lib

/-- What lies in a block of the Kernel's own. -/
def KTag (o : Obj) : Prop := (∃ es c, o = .map es c) ∨ ∃ cur t, o = .cells cur t (0, 0) ∧ t ∈ [74, 108, 97, 85, 91, 93]
section
variable {w w' : World} {kb tb mb : Nat} {g : Int} {P Q : Nat → Prop} {ι : Nat → Nat} {s : DS} {rv wv : Nat → Value} {qv : Value}
theorem KV.narrow (h : KV w kb tb mb g P ι s rv wv qv) (hq : ∀ b o, P b → w.heap[b]? = some o → KTag o → Q b) : KV w kb tb mb g Q ι s rv wv qv := by
  have row : ∀ {base : Nat} {t : TypeId} {sz : Nat} {v : Value} {n : Nat} {xs : List Value}, w.ownsRow base t sz v n xs → t ∈ [74, 108, 97, 85, 91, 93] → (∀ b, v.ownBlock = some b → P b) → ∀ b, v.ownBlock = some b → Q b := fun ho ht hp b e => by
    obtain ⟨cur, hc⟩ := own_tag ho e
    exact hq b _ (hp b e) hc (Or.inr ⟨cur, _, rfl, ht⟩)
  refine ⟨h.k, h.t, h.m, h.o, h.inj, h.r, h.wr, h.q, ⟨?_, ?_, ?_⟩, fun o ho => ?_, fun i hi => row (h.r i hi) (by decide) (h.pr i hi), fun i hi => row (h.wr i hi) (by decide) (h.pw i hi), row h.q (by decide) h.pq, h.sm⟩
  · exact hq kb _ h.pk.1 h.k (Or.inr ⟨_, _, rfl, by decide⟩)
  · exact hq tb _ h.pk.2.1 h.t (Or.inr ⟨_, _, rfl, by decide⟩)
  · obtain ⟨es, c, M, hm, _⟩ := h.m
    exact hq mb _ h.pk.2.2 hm (Or.inl ⟨_, _, rfl⟩)
  · exact hq (ι o) _ (h.po o ho) (h.o o ho) (Or.inr ⟨_, _, rfl, by decide⟩)
theorem KV.frame (h : KV w kb tb mb g P ι s rv wv qv) (hb : ∀ b, P b → w'.heap[b]? = w.heap[b]?) : KV w' kb tb mb g P ι s rv wv qv :=
  ⟨(hb kb h.pk.1).trans h.k, h.t.of_block (hb tb h.pk.2.1), h.m.of_block (hb mb h.pk.2.2), fun o ho => (h.o o ho).of_block (hb _ (h.po o ho)), h.inj, fun i hi => own_blk (h.r i hi) fun b e => hb b (h.pr i hi b e), fun i hi => own_blk (h.wr i hi) fun b e => hb b (h.pw i hi b e), own_blk h.q fun b e => hb b (h.pq b e), h.pk, h.po, h.pr, h.pw, h.pq, h.sm⟩
/-- A Kernel in block kb, whose own blocks are of P, in the state s. -/
def rep (w : World) (kb : Nat) (P : Nat → Prop) (s : DS) : Prop :=
  s.Inv ∧ (∀ b, P b → b < w.heap.size) ∧ ∃ tb mb ι rv wv qv, KV w kb tb mb 0 P ι s rv wv qv
/-- The blocks behind a call: none of what was told. -/
def after (w w' : World) (P : Nat → Prop) (vs : List Value) (b : Nat) : Prop := (P b ∨ w.heap.size ≤ b) ∧ b < w'.heap.size ∧ ∀ v, v ∈ vs → v.ownBlock ≠ some b
theorem rep.grown (h : KV w kb tb mb g P ι s rv wv qv) : KV w kb tb mb g (fun b => P b ∨ w.heap.size ≤ b) ι s rv wv qv := h.mono fun _ hb => Or.inl hb
/-- The Kernel, the lists that were told set apart. -/
theorem KV.after (h : KV w' kb tb mb g (fun b => P b ∨ w.heap.size ≤ b) ι s rv wv qv) {vs : List Value} (hv : ∀ v, v ∈ vs → ∀ b, v.ownBlock = some b → ∃ cur t, w'.heap[b]? = some (.cells cur t (0, 0)) ∧ t ∉ [74, 108, 97, 85, 91, 93]) :
    KV w' kb tb mb g (after w w' P vs) ι s rv wv qv := h.narrow fun b o hp hb ht => by
  refine ⟨hp, (Array.getElem?_eq_some_iff.1 hb).1, fun v hm e => ?_⟩
  obtain ⟨cur, t, hc, hn⟩ := hv v hm b e
  rw [hb] at hc
  cases hc
  rcases ht with ⟨es, c, e2⟩ | ⟨cur2, t2, e2, hin⟩
  · cases e2
  · cases e2; exact hn hin
theorem upd_after (hkp : Kp [kb, tb, mb] w w') (hk : P kb ∧ P tb ∧ P mb) (vs : List Value) : Upd P (after w w' P vs) w w' :=
  ⟨hkp.os, hkp.tape, hkp.output, hkp.size, fun k hl hn => hkp.block k hl (by
    simp only [List.mem_cons, List.not_mem_nil, or_false]
    rintro (e | e | e)
    · exact hn (e ▸ hk.1)
    · exact hn (e ▸ hk.2.1)
    · exact hn (e ▸ hk.2.2)), fun k hl hp => by
    rcases hp.1 with h | h
    · exact h
    · omega⟩
theorem own_told {base : Nat} {t : TypeId} {sz : Nat} {v : Value} {n : Nat} {xs : List Value} (ho : w'.ownsRow base t sz v n xs) (hn : t ∉ [74, 108, 97, 85, 91, 93]) :
    ∀ b, v.ownBlock = some b → ∃ cur t, w'.heap[b]? = some (.cells cur t (0, 0)) ∧ t ∉ [74, 108, 97, 85, 91, 93] := fun b e => by
  obtain ⟨cur, hc⟩ := own_tag ho e
  exact ⟨cur, t, hc, hn⟩
/-- A reply came: what the statements are told of it. -/
theorem Done.told {e : Ending} {r : Rp} {t : DS} (hi : t.Inv) (hk : P kb ∧ P tb ∧ P mb) (h : Done w w' kb tb mb (fun b => P b ∨ w.heap.size ≤ b) e r t) :
    ∃ P' v, e = .returned (rpV r v) ∧ Told w w' P' 78 2 v r.d.length (flatD r.d) ∧ rep w' kb P' t ∧ Upd P P' w w' := by
  obtain ⟨v, he, ho, ⟨ι', rv', wv', qv', hkv⟩, hkp⟩ := h
  refine ⟨after w w' P [v], v, he, ⟨ho, fun b e2 hp => hp.2.2 v (by simp) e2⟩, ⟨hi, fun b hp => hp.2.1, tb, mb, ι', rv', wv', qv', hkv.after fun u hu => ?_⟩, upd_after hkp hk _⟩
  simp only [List.mem_cons, List.not_mem_nil, or_false] at hu
  subst hu
  exact own_told ho (by decide)
end
end Go.Proofs.YtaicdjhblbobbabGreat
