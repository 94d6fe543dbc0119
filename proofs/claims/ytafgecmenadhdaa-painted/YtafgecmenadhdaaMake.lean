/- Contracts of New, Fork and Open of the Kernel, where they go well. -/
import Derived.Test.YtafgecmenadhdaaOuter
namespace Go.Proofs.Ytafgecmenadhdaa
open Go.RowKit Go.Lib Go.MuLone

def KS.forked (s : KS) (p : Int) (c : Nat) : KS := { s with L := updL s.L c true, F := copyF s.F p c 5 }
theorem KInv.forked {w w' : World} {kb tb mb : Nat} {g : Int} {s : KS} (h : KInv w kb tb mb g s) {p : Int} {c : Nat} (hc : c < 6) (ht : Tab w' tb mb (updL s.L c true)) (hm : MapAt w' mb (copyF s.F p c 5)) (hk : Kp [tb, mb] w w') : KInv w' kb tb mb g (s.forked p c) := by
  have hkp : Kp [kb, tb, mb] w w' := hk.mono (fun x hx => by simp at hx ⊢; omega)
  obtain ⟨v0, v1, v2, hkk, r0, r1, r2⟩ := h.k
  have hcopy : ∀ q e b, copyF s.F p c 5 q e = some b → (∃ q', s.F q' e = some b) ∧ liveB (updL s.L c true) q = true := fun q e b hb => by
    unfold copyF at hb
    split at hb
    · rename_i hq
      obtain ⟨rfl, h0, h5⟩ := hq
      exact ⟨⟨_, hb⟩, by simp [liveB, updL]; omega⟩
    · obtain ⟨hl, hd⟩ := h.ok.f q e b hb
      refine ⟨⟨_, hb⟩, ?_⟩
      simp only [liveB, updL, Bool.and_eq_true, decide_eq_true_eq] at hl ⊢
      refine ⟨hl.1, ?_⟩
      split
      · rfl
      · exact hl.2
  refine ⟨⟨v0, v1, v2, (hk.block kb h.lt (by simp; exact ⟨h.ne1, h.ne2⟩)).trans hkk, r0.kp h hkp, r1.kp h hkp, r2.kp h hkp⟩, ht, hm, fun q e b hb => ?_, ⟨fun q e b hb => ?_, fun q e b hb => ?_, h.ok.len, h.ok.run⟩⟩
  · obtain ⟨⟨q', hq'⟩, _⟩ := hcopy q e b hb
    exact (h.o q' e b hq').kp h hkp
  · obtain ⟨⟨q', hq'⟩, _⟩ := hcopy q e b hb
    exact h.ok.o q' e b hq'
  · obtain ⟨⟨q', hq'⟩, hl⟩ := hcopy q e b hb
    exact ⟨hl, (h.ok.f q' e b hq').2⟩

set_option maxHeartbeats 4000000 in
set_option maxRecDepth 100000 in
theorem Fork_ok {w : World} {kb tb mb : Nat} {s : KS} (h : KInv w kb tb mb 0 s) (p : Int) (hl : liveB s.L p = true) (c : Nat) (hc : c < 6) (hc1 : ∀ j, j < c → s.L j = true) (hc2 : s.L c = false) :
    Calls Try.prog 16 #[.pointer (some ⟨kb, 0, none⟩), .int .i64 p] w fun e w' => e = .returned (replyV 0 c) ∧ KInv w' kb tb mb 0 (s.forked p c) ∧ Kp [kb, tb, mb] w w' := by
  have hFc : ∀ e, s.F c e = none := fun e => by
    cases hf : s.F c e with
    | none => rfl
    | some b =>
      have := (h.ok.f c e b hf).1
      simp [liveB] at this
      rw [hc2] at this
      exact absurd this.2 (by simp)
  have hlt := h.lt
  have h1 : KInv (w.alloc (.cells #[.int .i64 0, .int .i64 0, .slice none 0 0] 31)) kb tb mb 0 s := h.below ((Below.refl _ _).alloc (Nat.le_refl _) _)
  obtain ⟨c0, c2, cz⟩ := h1.cells
  have h2 : KInv ((w.setCell ⟨kb, 0, none⟩ (.int .i32 1)).alloc (.cells #[.int .i64 0, .int .i64 0, .slice none 0 0] 31)) kb tb mb 1 s := (h.guard 1).below ((Below.refl _ _).alloc (Nat.le_refl _) _)
  have HL := Hid.mk (procsFork_ok h2.t h2.m p hl c hc hc1 hc2 hFc)
  have HI := Hid.mk h2
  have htl := h.t.lt
  have hml := h.m.lt
  have d2 := h2.cells.2.1
  have hne1 := h.ne1
  clear h h1 h2 hFc hc1 hc2 hl
  go_enter_defers Try.func16, Try.ntmps16
  go_wp2_with (first
    | (go_at_call 18; refine (lock_free Try.muLib ⟨kb, 0, none⟩ _ c0 (cz 0)).mono ?_; rintro e w' ⟨rfl, rfl⟩)
    | (go_at_call 32; refine HL.out.mono ?_; rintro e w2 ⟨rfl, ht2, hm2, hp2⟩; have HK2 := Hid.mk (HI.out.forked hc ht2 hm2 hp2); have HP2 : Hid (Kp [kb, tb, mb] _ w2) := hp2.mono (fun x hx => by simp at hx ⊢; omega); clear ht2 hm2 hp2)
    | (go_at_call 20; refine (reply_any _ _ _).mono ?_; rintro e w3 ⟨rfl, hb3⟩; have H3 := Hid.mk hb3; obtain ⟨hblk, hq2⟩ := result_block HP2.out hb3 (fun x hx => by simp at hx; omega); obtain ⟨q0, q1, q2, qz⟩ := reply_block hblk; have HBK := Hid.mk hblk; clear hb3 hblk))
  have hK4 := (HK2.out.below H3.out).replied HBK.out (.int .i64 0) (.int .i64 c) (.slice none 0 0)
  obtain ⟨g0, _, gz⟩ := hK4.cells
  have hK5 := hK4.guard 0
  have hcs := replied_cells HBK.out (.int .i64 0) (.int .i64 c) (.slice none 0 0) ⟨kb, 0, none⟩ (.int .i32 0) (by simp; omega)
  refine leaves_cons (f := 19) (args := #[.pointer (some ⟨kb, 0, none⟩)]) (by simp) (by simp [go_sem]) ?_
  refine (unlock_deferred Try.muLib ⟨kb, 0, none⟩ .returning _ g0 (gz 0)).mono ?_
  rintro e u' w'' ⟨rfl, rfl, rfl⟩
  obtain ⟨y0, y1, y2, _⟩ := reply_block hcs
  refine ⟨replyV 0 c, ?_, rfl, hK5, ?_⟩
  · simp [results, Try.results16, go_sem, y0, y1, y2, replyV]
  · have e1 : Kp [kb, tb, mb] w ((w.setCell ⟨kb, 0, none⟩ (.int .i32 1)).alloc (.cells #[.int .i64 0, .int .i64 0, .slice none 0 0] 31)) := (Kp.setCell (by simp)).trans (Kp.below ((Below.refl _ _).alloc (Nat.le_refl _) _))
    exact (((((e1.trans HP2.out).trans (Kp.below H3.out)).newCell (Nat.le_refl _) _).newCell (Nat.le_refl _) _).newCell (Nat.le_refl _) _).oldCell (by simp) _

/-- The state with one opening more: block b, of file f, the descriptor d of process p. -/
def KS.opened (s : KS) (p : Int) (d : Nat) (b : Nat) (f : Int) : KS := { s with F := updF s.F p d (some b), O := fun x => if x = b then f else s.O x }
theorem KInv.opened {w w' : World} {kb tb mb : Nat} {g : Int} {s : KS} (h : KInv w kb tb mb g s) {p f : Int} {d b : Nat} (hl : liveB s.L p = true) (hd : d < 5) (hf0 : 0 ≤ f) (hf1 : f < 3) (hb : w.heap.size ≤ b) (ho : OpenAt w' b f) (hm : MapAt w' mb (updF s.F p d (some b))) (hk : Kp [mb] w w') : KInv w' kb tb mb g (s.opened p d b f) := by
  have hkp : Kp [kb, tb, mb] w w' := hk.mono (fun x hx => by simp at hx ⊢; omega)
  obtain ⟨v0, v1, v2, hkk, r0, r1, r2⟩ := h.k
  have hold : ∀ q e x, s.F q e = some x → x ≠ b := fun q e x hx hxb => by
    have := h.o q e x hx
    have := (Array.getElem?_eq_some_iff.1 this).1
    omega
  have hcase : ∀ q e x, updF s.F p d (some b) q e = some x → (x = b ∧ q = p ∧ e = d) ∨ (s.F q e = some x ∧ x ≠ b) := fun q e x hx => by
    unfold updF at hx
    split at hx
    · rename_i hq
      exact Or.inl ⟨(Option.some.inj hx).symm, hq.1, hq.2⟩
    · exact Or.inr ⟨hx, hold q e x hx⟩
  refine ⟨⟨v0, v1, v2, (hk.block kb h.lt (by simp; exact h.ne2)).trans hkk, r0.kp h hkp, r1.kp h hkp, r2.kp h hkp⟩, h.t.of_block (hk.block tb h.t.lt (by simp; exact h.ne3)), hm, fun q e x hx => ?_, ⟨fun q e x hx => ?_, fun q e x hx => ?_, h.ok.len, h.ok.run⟩⟩
  · rcases hcase q e x hx with ⟨rfl, _⟩ | ⟨hx, hne⟩
    · simpa [KS.opened] using ho
    · have := (h.o q e x hx).kp h hkp
      simpa [KS.opened, hne] using this
  · rcases hcase q e x hx with ⟨rfl, _⟩ | ⟨hx, hne⟩
    · simp [KS.opened]; omega
    · have := h.ok.o q e x hx
      simpa [KS.opened, hne] using this
  · rcases hcase q e x hx with ⟨rfl, rfl, rfl⟩ | ⟨hx, hne⟩
    · exact ⟨hl, by omega, by omega⟩
    · exact h.ok.f q e x hx

set_option maxHeartbeats 4000000 in
set_option maxRecDepth 100000 in
theorem Open_ok {w : World} {kb tb mb : Nat} {s : KS} (h : KInv w kb tb mb 0 s) (p f : Int) (hl : liveB s.L p = true) (hf0 : 0 ≤ f) (hf1 : f < 3) (d : Nat) (hd : d < 5) (hd1 : ∀ j : Nat, j < d → (s.F p j).isSome = true) (hd2 : s.F p d = none) :
    Calls Try.prog 17 #[.pointer (some ⟨kb, 0, none⟩), .int .i64 p, .int .i64 f] w fun e w' => ∃ b, e = .returned (replyV 0 d) ∧ KInv w' kb tb mb 0 (s.opened p d b f) ∧ Kp [kb, tb, mb] w w' ∧ w.heap.size ≤ b := by
  have hlt := h.lt
  have h1 : KInv (w.alloc (.cells #[.int .i64 0, .int .i64 0, .slice none 0 0] 31)) kb tb mb 0 s := h.below ((Below.refl _ _).alloc (Nat.le_refl _) _)
  obtain ⟨c0, c2, cz⟩ := h1.cells
  have h2 : KInv ((w.setCell ⟨kb, 0, none⟩ (.int .i32 1)).alloc (.cells #[.int .i64 0, .int .i64 0, .slice none 0 0] 31)) kb tb mb 1 s := (h.guard 1).below ((Below.refl _ _).alloc (Nat.le_refl _) _)
  have HL := Hid.mk (procsOpen_ok h2.t h2.m p f hl hf0 hf1 d hd hd1 hd2)
  have HI := Hid.mk (fun (w' : World) (b : Nat) => h2.opened (w' := w') (p := p) (d := d) (b := b) (f := f) hl hd hf0 hf1)
  have htl := h.t.lt
  have hml := h.m.lt
  have d2 := h2.cells.2.1
  clear h h1 h2 hd1 hd2 hl
  go_enter_defers Try.func17, Try.ntmps17
  go_wp2_with (first
    | (go_at_call 18; refine (lock_free Try.muLib ⟨kb, 0, none⟩ _ c0 (cz 0)).mono ?_; rintro e w' ⟨rfl, rfl⟩)
    | (go_at_call 33; refine HL.out.mono ?_; rintro e w2 ⟨rfl, ho2, hm2, hp2⟩; have HK2 := Hid.mk (HI.out w2 _ (Nat.le_refl _) ho2 hm2 hp2); have HP2 : Hid (Kp [kb, tb, mb] _ w2) := hp2.mono (fun x hx => by simp at hx ⊢; omega); clear ho2 hm2 hp2)
    | (go_at_call 20; refine (reply_any _ _ _).mono ?_; rintro e w3 ⟨rfl, hb3⟩; have H3 := Hid.mk hb3; obtain ⟨hblk, hq2⟩ := result_block HP2.out hb3 (fun x hx => by simp at hx; omega); obtain ⟨q0, q1, q2, qz⟩ := reply_block hblk; have HBK := Hid.mk hblk; clear hb3 hblk))
  have hK4 := (HK2.out.below H3.out).replied HBK.out (.int .i64 0) (.int .i64 d) (.slice none 0 0)
  obtain ⟨g0, _, gz⟩ := hK4.cells
  have hK5 := hK4.guard 0
  have hcs := replied_cells HBK.out (.int .i64 0) (.int .i64 d) (.slice none 0 0) ⟨kb, 0, none⟩ (.int .i32 0) (by simp; omega)
  refine leaves_cons (f := 19) (args := #[.pointer (some ⟨kb, 0, none⟩)]) (by simp) (by simp [go_sem]) ?_
  refine (unlock_deferred Try.muLib ⟨kb, 0, none⟩ .returning _ g0 (gz 0)).mono ?_
  rintro e u' w'' ⟨rfl, rfl, rfl⟩
  obtain ⟨y0, y1, y2, _⟩ := reply_block hcs
  refine ⟨replyV 0 d, ?_, _, rfl, hK5, ?_, by simp⟩
  · simp [results, Try.results17, go_sem, y0, y1, y2, replyV]
  · have e1 : Kp [kb, tb, mb] w ((w.setCell ⟨kb, 0, none⟩ (.int .i32 1)).alloc (.cells #[.int .i64 0, .int .i64 0, .slice none 0 0] 31)) := (Kp.setCell (by simp)).trans (Kp.below ((Below.refl _ _).alloc (Nat.le_refl _) _))
    exact (((((e1.trans HP2.out).trans (Kp.below H3.out)).newCell (Nat.le_refl _) _).newCell (Nat.le_refl _) _).newCell (Nat.le_refl _) _).oldCell (by simp) _

/-- The state that New makes. -/
def KS.new : KS := ⟨L0, F0, fun _ => 0, fun _ => []⟩
set_option maxHeartbeats 4000000 in
set_option maxRecDepth 100000 in
theorem New_any (w : World) :
    Calls Try.prog 15 #[] w fun e w' => ∃ kb tb mb, e = .returned (.pointer (some ⟨kb, 0, none⟩)) ∧ KInv w' kb tb mb 0 KS.new ∧ Below w.heap.size w w' ∧ w.heap.size ≤ kb ∧ w.heap.size ≤ tb ∧ w.heap.size ≤ mb := by
  go_enter Try.func15, Try.ntmps15
  go_wp2_with (go_at_call 31; refine (procsNew_any w).mono ?_; rintro e w' ⟨tb, mb, rfl, ht, hm, hb, h1, h2⟩; have HT := Hid.mk ht; have HM := Hid.mk hm; have HB := Hid.mk hb; clear ht hm hb)
  go_ret
  have hz := HB.out.size
  refine ⟨w'.heap.size, tb, mb, rfl, ⟨⟨_, _, _, heap_alloc_new w' _, Or.inl ⟨rfl, rfl⟩, Or.inl ⟨rfl, rfl⟩, Or.inl ⟨rfl, rfl⟩⟩, HT.out.of_block (Below.heap_alloc _ _ _ HT.out.lt), HM.out.of_block (Below.heap_alloc _ _ _ HM.out.lt), fun p d b hf => ?_, ⟨fun p d b hf => ?_, fun p d b hf => ?_, fun i => ?_, fun i x hx => ?_⟩⟩, HB.out.alloc (by omega) _, by omega, h1, h2⟩
  · cases hf
  · cases hf
  · cases hf
  · simp [KS.new]
  · cases hx
end Go.Proofs.Ytafgecmenadhdaa
