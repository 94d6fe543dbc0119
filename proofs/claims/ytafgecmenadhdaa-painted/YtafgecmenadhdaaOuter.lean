/- Contracts of the Kernel's calls: the guard is taken, the inner function called, the guard let go. -/
import Derived.Test.YtafgecmenadhdaaTell
import Derived.Conc.MuLone
namespace Go.Proofs.Ytafgecmenadhdaa
open Go.RowKit Go.Lib Go.MuLone

theorem insR_ok {l : List Rn} {r : Rn} (hl : ∀ x, x ∈ l → RunOk x) (hr : RunOk r) : ∀ x, x ∈ insR l r → RunOk x := fun x hx => by
  rcases mem_insR.1 hx with rfl | hx
  · exact hr
  · exact hl x hx
theorem cutR_ok {l : List Rn} {h : Rn} (hl : ∀ x, x ∈ l → RunOk x) : ∀ x, x ∈ cutR l h → RunOk x := by
  have step : ∀ (rest : List Rn) (r : Rn), (∀ x, x ∈ rest → RunOk x) → RunOk r → ∀ x, x ∈ cutS h rest r → RunOk x := fun rest r h1 h2 => by
    unfold cutS
    split
    · exact insR_ok h1 h2
    · dsimp only
      have key : ∀ y, y ∈ (if r.f < h.f then insR rest ⟨r.p, r.k, r.f, h.f - 1⟩ else rest) → RunOk y := by
        split
        · rename_i hlt
          refine insR_ok h1 ?_
          unfold RunOk at *
          simp only
          rename_i hm
          simp [meetsB] at hm
          omega
        · exact h1
      split
      · rename_i hm hlt
        refine insR_ok key ?_
        unfold RunOk at *
        simp only
        simp [meetsB] at hm
        omega
      · exact key
  have : ∀ (l rest : List Rn), (∀ x, x ∈ l → RunOk x) → (∀ x, x ∈ rest → RunOk x) → ∀ x, x ∈ l.foldl (cutS h) rest → RunOk x := fun l => by
    induction l with
    | nil => exact fun _ _ h => h
    | cons a t ih => exact fun rest h1 h2 => ih _ (fun x hx => h1 x (List.mem_cons_of_mem _ hx)) (step _ _ h2 (h1 a List.mem_cons_self))
  exact this l [] hl (fun x hx => by cases hx)
theorem joinR_ok {l : List Rn} {r : Rn} (hl : ∀ x, x ∈ l → RunOk x) (hr : RunOk r) : ∀ x, x ∈ joinR l r → RunOk x := by
  have : ∀ (l : List Rn) (s : List Rn × Rn), (∀ x, x ∈ l → RunOk x) → (∀ x, x ∈ s.1 → RunOk x) → RunOk s.2 → (∀ x, x ∈ (l.foldl joinS s).1 → RunOk x) ∧ RunOk (l.foldl joinS s).2 := fun l => by
    induction l with
    | nil => exact fun _ _ h1 h2 => ⟨h1, h2⟩
    | cons a t ih =>
      intro s h1 h2 h3
      refine ih _ (fun x hx => h1 x (List.mem_cons_of_mem _ hx)) ?_ ?_
      · unfold joinS; split
        · exact insR_ok h2 (h1 a List.mem_cons_self)
        · exact h2
      · unfold joinS; split
        · exact h3
        · have ha := h1 a List.mem_cons_self
          unfold RunOk at *; simp only; omega
  obtain ⟨h1, h2⟩ := this l ([], r) hl (fun x hx => by cases hx) hr
  exact insR_ok h1 h2
theorem setR_ok {l : List Rn} {r : Rn} (hl : ∀ x, x ∈ l → RunOk x) (hr : RunOk r) : ∀ x, x ∈ setR l r → RunOk x := by
  unfold setR
  split
  · exact cutR_ok hl
  · exact joinR_ok (cutR_ok hl) hr

/-- What Lock does: how it ends, and the state behind it. -/
def lockM (s : KS) (p d k f l : Int) : Int × KS :=
  if readE s p d k f l 0 ≠ 0 then (readE s p d k f l 0, s) else
  match s.F p d with
  | none => (0, s)
  | some b =>
    if 0 ≤ biterR (s.R (s.O b).toNat) ⟨p, k, fromS f l, toS f l⟩ then (8, s) else
    if 12 < (setR (s.R (s.O b).toNat) ⟨p, k, fromS f l, toS f l⟩).length then (9, s) else
    (0, { s with R := updR s.R (s.O b).toNat (setR (s.R (s.O b).toNat) ⟨p, k, fromS f l, toS f l⟩) })

theorem lock_any {w : World} {kb tb mb : Nat} {g : Int} {s : KS} (h : KInv w kb tb mb g s) (p d k f l : Int) :
    Calls Try.prog 21 #[.pointer (some ⟨kb, 0, none⟩), .int .i64 p, .int .i64 d, .int .i64 k, .int .i64 f, .int .i64 l] w fun e w' => e = .returned (.int .i64 (lockM s p d k f l).1) ∧ KInv w' kb tb mb g (lockM s p d k f l).2 ∧ Kp [kb] w w' := by
  by_cases he : readE s p d k f l 0 = 0
  · obtain ⟨b, h1, h2, h3, h4, h5⟩ := readE_zero he
    unfold lockM
    rw [if_neg (by simpa using he)]
    simp only [h2]
    by_cases hb : 0 ≤ biterR (s.R (s.O b).toNat) ⟨p, k, fromS f l, toS f l⟩
    · rw [if_pos hb]
      refine (lock_busy h p d k f l h1 h2 h3 h5 hb).mono ?_
      rintro e w' ⟨rfl, hw⟩
      exact ⟨rfl, h.below hw, Kp.below hw⟩
    · rw [if_neg hb]
      by_cases hN : 12 < (setR (s.R (s.O b).toNat) ⟨p, k, fromS f l, toS f l⟩).length
      · rw [if_pos hN]
        refine (lock_table h p d k f l h1 h2 h3 h5 (by omega) hN).mono ?_
        rintro e w' ⟨rfl, hw⟩
        exact ⟨rfl, h.below hw, Kp.below hw⟩
      · rw [if_neg hN]
        refine (lock_ok h p d k f l h1 h2 h3 h5 (by omega) (by omega) (setR_ok (fun x hx => h.ok.run _ x hx) (by have := bounds_ok h5; unfold RunOk; simp only; omega))).mono ?_
        rintro e w' ⟨rfl, hw, hk⟩
        exact ⟨rfl, hw, hk⟩
  · unfold lockM
    rw [if_pos he]
    refine (lock_err h p d k f l he).mono ?_
    rintro e w' ⟨rfl, hw⟩
    exact ⟨rfl, h.below hw, Kp.below hw⟩

theorem KInv.guard {w : World} {kb tb mb : Nat} {g : Int} {s : KS} (h : KInv w kb tb mb g s) (g' : Int) : KInv (w.setCell ⟨kb, 0, none⟩ (.int .i32 g')) kb tb mb g' s := by
  obtain ⟨v0, v1, v2, hk, r0, r1, r2⟩ := h.k
  have hkp : Kp [kb, tb, mb] w (w.setCell ⟨kb, 0, none⟩ (.int .i32 g')) := Kp.setCell (by simp)
  exact ⟨⟨v0, v1, v2, by rw [heap_setCell_at hk]; rfl, r0.kp h hkp, r1.kp h hkp, r2.kp h hkp⟩, h.t.of_block (Below.heap_setCell _ _ _ _ h.ne1.symm), h.m.of_block (Below.heap_setCell _ _ _ _ h.ne2.symm), fun p d b hf => (h.o p d b hf).kp h hkp, h.ok⟩

/-- A block that is no Kernel, table, opening or row of runs may turn. -/
theorem KInv.but {w w' : World} {kb tb mb : Nat} {g : Int} {s : KS} (h : KInv w kb tb mb g s) {b : Nat} {c : Array Value} {ty : TypeId} {fr : Nat × Nat} (hb : w.heap[b]? = some (.cells c ty fr)) (t1 : ty ≠ 59) (t2 : ty ≠ 88) (t3 : ty ≠ 97) (t4 : ty ≠ 78)
    (he : ∀ k, k ≠ b → w'.heap[k]? = w.heap[k]?) : KInv w' kb tb mb g s := by
  obtain ⟨v0, v1, v2, hk, r0, r1, r2⟩ := h.k
  have n1 : kb ≠ b := fun e => by rw [e, hb] at hk; cases hk; exact t1 rfl
  have n2 : tb ≠ b := fun e => by have ht := h.t; unfold Tab at ht; rw [e, hb] at ht; cases ht; exact t2 rfl
  have n3 : mb ≠ b := fun e => by obtain ⟨es, ck, M, hm, _⟩ := h.m; rw [e, hb] at hm; cases hm
  have hrd : ∀ {v : Value} {l : List Rn}, Reads w v l → Reads w' v l := fun {v l} hr => by
    rcases hr with hr | ⟨gb, cap, hv, hgb, hrow⟩
    · exact Or.inl hr
    · have hne : gb ≠ b := fun e => by obtain ⟨cur, hgb⟩ := hgb; rw [e, hb] at hgb; cases hgb; exact t4 rfl
      have hblk := he gb hne
      refine Or.inr ⟨gb, cap, hv, hgb.of_block hblk, fun i r hir => ?_⟩
      obtain ⟨a1, a2, a3, a4⟩ := hrow i r hir
      exact ⟨(World.cell?_of_block (w := w) (a := ⟨gb, _, none⟩) hblk).trans a1, (World.cell?_of_block (w := w) (a := ⟨gb, _, none⟩) hblk).trans a2, (World.cell?_of_block (w := w) (a := ⟨gb, _, none⟩) hblk).trans a3, (World.cell?_of_block (w := w) (a := ⟨gb, _, none⟩) hblk).trans a4⟩
  refine ⟨⟨v0, v1, v2, (he kb n1).trans hk, hrd r0, hrd r1, hrd r2⟩, h.t.of_block (he tb n2), h.m.of_block (he mb n3), fun p d ob hf => ?_, h.ok⟩
  have ho := h.o p d ob hf
  exact ho.of_block (he ob (fun e => by unfold OpenAt at ho; rw [e, hb] at ho; cases ho; exact t3 rfl))
theorem Kp.newCell {bs : List Nat} {w w' : World} (h : Kp bs w w') {a : Addr} (ha : w.heap.size ≤ a.block) (v : Value) : Kp bs w (w'.setCell a v) :=
  ⟨h.os, h.tape, h.output, by simpa using h.size, fun k hk hn => (Below.heap_setCell _ _ _ _ (by omega)).trans (h.block k hk hn)⟩
theorem Kp.oldCell {bs : List Nat} {w w' : World} (h : Kp bs w w') {a : Addr} (ha : a.block ∈ bs) (v : Value) : Kp bs w (w'.setCell a v) := h.trans (Kp.setCell ha)

/-- A reply, as a value. -/
def replyV (e n : Int) : Value := .agg #[.int .i64 e, .int .i64 n, .slice none 0 0]

theorem result_block {w w2 w3 : World} {bs : List Nat} {a : Addr} {v : Value} {o : Obj} (hp : Kp bs ((w.setCell a v).alloc o) w2) (hb : Below w2.heap.size w2 w3) (hbs : ∀ x, x ∈ bs → x < w.heap.size) : w3.heap[w.heap.size]? = some o ∧ w.heap.size < w2.heap.size := by
  have hz := hp.size
  simp at hz
  refine ⟨?_, by omega⟩
  rw [hb.block w.heap.size (by omega), hp.block w.heap.size (by simp) (fun hx => by have := hbs _ hx; omega)]
  have := heap_alloc_new (w.setCell a v) o
  simpa using this
/-- The Kernel stands while a reply is stored into the result's own block. -/
theorem KInv.replied {w : World} {kb tb mb : Nat} {g : Int} {s : KS} (h : KInv w kb tb mb g s) {b : Nat} {x y : Value} {z : Value} (hb : w.heap[b]? = some (.cells #[x, y, z] 31 (0, 0))) (v0 v1 v2 : Value) :
    KInv (((w.setCell ⟨b, 0, none⟩ v0).setCell ⟨b, 1, none⟩ v1).setCell ⟨b, 2, none⟩ v2) kb tb mb g s := by
  refine h.but hb (by decide) (by decide) (by decide) (by decide) (fun k hk => ?_)
  rw [Below.heap_setCell _ _ _ _ hk, Below.heap_setCell _ _ _ _ hk, Below.heap_setCell _ _ _ _ hk]
theorem replied_cells {w : World} {b : Nat} {x y z : Value} (hb : w.heap[b]? = some (.cells #[x, y, z] 31 (0, 0))) (v0 v1 v2 : Value) (a : Addr) (va : Value) (hab : a.block ≠ b) :
    ((((w.setCell ⟨b, 0, none⟩ v0).setCell ⟨b, 1, none⟩ v1).setCell ⟨b, 2, none⟩ v2).setCell a va).heap[b]? = some (.cells #[v0, v1, v2] 31 (0, 0)) := by
  rw [Below.heap_setCell _ _ _ _ hab.symm, heap_setCell_at (heap_setCell_at (heap_setCell_at hb))]
  rfl
theorem reply_block {w : World} {b : Nat} {x y : Int} {z : Value} (h : w.heap[b]? = some (.cells #[.int .i64 x, .int .i64 y, z] 31 (0, 0))) :
    w.cell? ⟨b, 0, none⟩ = some (.int .i64 x) ∧ w.cell? ⟨b, 1, none⟩ = some (.int .i64 y) ∧ w.cell? ⟨b, 2, none⟩ = some z ∧ ∀ o, w.frozen? ⟨b, o, none⟩ = false := by
  refine ⟨?_, ?_, ?_, fun o => ?_⟩ <;> simp [World.cell?, World.frozen?, h]

set_option maxHeartbeats 4000000 in
set_option maxRecDepth 100000 in
theorem Lock_any {w : World} {kb tb mb : Nat} {s : KS} (h : KInv w kb tb mb 0 s) (p d k f l : Int) (wt : Bool) :
    Calls Try.prog 8 #[.pointer (some ⟨kb, 0, none⟩), .int .i64 p, .int .i64 d, .int .i64 k, .int .i64 f, .int .i64 l, .bool wt] w fun e w' => e = .returned (replyV (lockM s p d k f l).1 0) ∧ KInv w' kb tb mb 0 (lockM s p d k f l).2 ∧ Kp [kb] w w' := by
  have hlt := h.lt
  have h1 : KInv (w.alloc (.cells #[.int .i64 0, .int .i64 0, .slice none 0 0] 31)) kb tb mb 0 s := h.below ((Below.refl _ _).alloc (Nat.le_refl _) _)
  obtain ⟨c0, c2, cz⟩ := h1.cells
  have h2 : KInv ((w.setCell ⟨kb, 0, none⟩ (.int .i32 1)).alloc (.cells #[.int .i64 0, .int .i64 0, .slice none 0 0] 31)) kb tb mb 1 s := (h.guard 1).below ((Below.refl _ _).alloc (Nat.le_refl _) _)
  have HL := Hid.mk (lock_any h2 p d k f l)
  generalize lockM s p d k f l = r at *
  clear h h1 h2
  go_enter_defers Try.func8, Try.ntmps8
  go_wp2_with (first
    | (go_at_call 18; refine (lock_free Try.muLib ⟨kb, 0, none⟩ _ c0 (cz 0)).mono ?_; rintro e w' ⟨rfl, rfl⟩)
    | (go_at_call 21; refine HL.out.mono ?_; rintro e w2 ⟨rfl, hk2, hp2⟩; have HK2 := Hid.mk hk2; have HP2 := Hid.mk hp2; clear hk2 hp2)
    | (go_at_call 20; refine (reply_any _ _ _).mono ?_; rintro e w3 ⟨rfl, hb3⟩; have H3 := Hid.mk hb3; obtain ⟨hblk, hq2⟩ := result_block HP2.out hb3 (fun x hx => by simp at hx; omega); obtain ⟨q0, q1, q2, qz⟩ := reply_block hblk; have HBK := Hid.mk hblk; clear hb3 hblk))
  -- the door: the result is read behind the deferred Unlock
  have hK4 := (HK2.out.below H3.out).replied HBK.out (.int .i64 r.1) (.int .i64 0) (.slice none 0 0)
  obtain ⟨g0, _, gz⟩ := hK4.cells
  have hK5 := hK4.guard 0
  have hcs := replied_cells HBK.out (.int .i64 r.1) (.int .i64 0) (.slice none 0 0) ⟨kb, 0, none⟩ (.int .i32 0) (by simp; omega)
  refine leaves_cons (f := 19) (args := #[.pointer (some ⟨kb, 0, none⟩)]) (by simp) (by simp [go_sem]) ?_
  refine (unlock_deferred Try.muLib ⟨kb, 0, none⟩ .returning _ g0 (gz 0)).mono ?_
  rintro e u' w'' ⟨rfl, rfl, rfl⟩
  obtain ⟨y0, y1, y2, _⟩ := reply_block hcs
  refine ⟨replyV r.1 0, ?_, rfl, hK5, ?_⟩
  · simp [results, Try.results8, go_sem, y0, y1, y2, replyV]
  · have e1 : Kp [kb] w ((w.setCell ⟨kb, 0, none⟩ (.int .i32 1)).alloc (.cells #[.int .i64 0, .int .i64 0, .slice none 0 0] 31)) := (Kp.setCell (by simp)).trans (Kp.below ((Below.refl _ _).alloc (Nat.le_refl _) _))
    exact (((((e1.trans HP2.out).trans (Kp.below H3.out)).newCell (Nat.le_refl _) _).newCell (Nat.le_refl _) _).newCell (Nat.le_refl _) _).oldCell (by simp) _

/-- What Test answers: how it ends, and who is in the way. -/
def testM (s : KS) (p d k f l : Int) : Int × Int :=
  if readE s p d k f l 1 ≠ 0 then (readE s p d k f l 1, 0) else
  match s.F p d with
  | none => (0, 0)
  | some b => (0, biterR (s.R (s.O b).toNat) ⟨p, k, fromS f l, toS f l⟩)
theorem test_any {w : World} {kb tb mb : Nat} {g : Int} {s : KS} (h : KInv w kb tb mb g s) (p d k f l : Int) :
    Calls Try.prog 23 #[.pointer (some ⟨kb, 0, none⟩), .int .i64 p, .int .i64 d, .int .i64 k, .int .i64 f, .int .i64 l] w fun e w' => e = .returned (.tuple #[.int .i64 (testM s p d k f l).2, .int .i64 (testM s p d k f l).1]) ∧ KInv w' kb tb mb g s ∧ Kp [kb] w w' := by
  by_cases he : readE s p d k f l 1 = 0
  · obtain ⟨b, h1, h2, h3, h4, h5⟩ := readE_zero he
    unfold testM
    rw [if_neg (by simpa using he)]
    simp only [h2]
    refine (test_ok h p d k f l h1 h2 h3 h4 h5).mono ?_
    rintro e w' ⟨rfl, hw⟩
    exact ⟨rfl, h.below hw, Kp.below hw⟩
  · unfold testM
    rw [if_pos he]
    refine (test_err h p d k f l he).mono ?_
    rintro e w' ⟨rfl, hw⟩
    exact ⟨rfl, h.below hw, Kp.below hw⟩

set_option maxHeartbeats 4000000 in
set_option maxRecDepth 100000 in
theorem Test_any {w : World} {kb tb mb : Nat} {s : KS} (h : KInv w kb tb mb 0 s) (p d k f l : Int) :
    Calls Try.prog 12 #[.pointer (some ⟨kb, 0, none⟩), .int .i64 p, .int .i64 d, .int .i64 k, .int .i64 f, .int .i64 l] w fun e w' => e = .returned (replyV (testM s p d k f l).1 (testM s p d k f l).2) ∧ KInv w' kb tb mb 0 s ∧ Kp [kb] w w' := by
  have hlt := h.lt
  have h1 : KInv (w.alloc (.cells #[.int .i64 0, .int .i64 0, .slice none 0 0] 31)) kb tb mb 0 s := h.below ((Below.refl _ _).alloc (Nat.le_refl _) _)
  obtain ⟨c0, c2, cz⟩ := h1.cells
  have h2 : KInv ((w.setCell ⟨kb, 0, none⟩ (.int .i32 1)).alloc (.cells #[.int .i64 0, .int .i64 0, .slice none 0 0] 31)) kb tb mb 1 s := (h.guard 1).below ((Below.refl _ _).alloc (Nat.le_refl _) _)
  have HL := Hid.mk (test_any h2 p d k f l)
  generalize testM s p d k f l = r at *
  clear h h1 h2
  go_enter_defers Try.func12, Try.ntmps12
  go_wp2_with (first
    | (go_at_call 18; refine (lock_free Try.muLib ⟨kb, 0, none⟩ _ c0 (cz 0)).mono ?_; rintro e w' ⟨rfl, rfl⟩)
    | (go_at_call 23; refine HL.out.mono ?_; rintro e w2 ⟨rfl, hk2, hp2⟩; have HK2 := Hid.mk hk2; have HP2 := Hid.mk hp2; clear hk2 hp2)
    | (go_at_call 20; refine (reply_any _ _ _).mono ?_; rintro e w3 ⟨rfl, hb3⟩; have H3 := Hid.mk hb3; obtain ⟨hblk, hq2⟩ := result_block HP2.out hb3 (fun x hx => by simp at hx; omega); obtain ⟨q0, q1, q2, qz⟩ := reply_block hblk; have HBK := Hid.mk hblk; clear hb3 hblk))
  have hK4 := (HK2.out.below H3.out).replied HBK.out (.int .i64 r.1) (.int .i64 r.2) (.slice none 0 0)
  obtain ⟨g0, _, gz⟩ := hK4.cells
  have hK5 := hK4.guard 0
  have hcs := replied_cells HBK.out (.int .i64 r.1) (.int .i64 r.2) (.slice none 0 0) ⟨kb, 0, none⟩ (.int .i32 0) (by simp; omega)
  refine leaves_cons (f := 19) (args := #[.pointer (some ⟨kb, 0, none⟩)]) (by simp) (by simp [go_sem]) ?_
  refine (unlock_deferred Try.muLib ⟨kb, 0, none⟩ .returning _ g0 (gz 0)).mono ?_
  rintro e u' w'' ⟨rfl, rfl, rfl⟩
  obtain ⟨y0, y1, y2, _⟩ := reply_block hcs
  refine ⟨replyV r.1 r.2, ?_, rfl, hK5, ?_⟩
  · simp [results, Try.results12, go_sem, y0, y1, y2, replyV]
  · have e1 : Kp [kb] w ((w.setCell ⟨kb, 0, none⟩ (.int .i32 1)).alloc (.cells #[.int .i64 0, .int .i64 0, .slice none 0 0] 31)) := (Kp.setCell (by simp)).trans (Kp.below ((Below.refl _ _).alloc (Nat.le_refl _) _))
    exact (((((e1.trans HP2.out).trans (Kp.below H3.out)).newCell (Nat.le_refl _) _).newCell (Nat.le_refl _) _).newCell (Nat.le_refl _) _).oldCell (by simp) _

set_option maxHeartbeats 4000000 in
set_option maxRecDepth 100000 in
theorem Runs_any {w : World} {kb tb mb : Nat} {s : KS} (h : KInv w kb tb mb 0 s) (i : Nat) (hi : i < 3) :
    Calls Try.prog 11 #[.pointer (some ⟨kb, 0, none⟩), .int .i64 i] w fun e w' => ∃ v', e = .returned v' ∧ w'.ownsRow w.heap.size 38 4 v' (s.R i).length (flat (s.R i)) ∧ KInv w' kb tb mb 0 s ∧ Kp [kb] w w' := by
  have hlt := h.lt
  obtain ⟨c0, c2, cz⟩ := h.cells
  have h2 := h.guard 1
  have HL := Hid.mk (tell_ok h2 i hi)
  have HI := Hid.mk h2
  clear h h2
  go_enter_defers Try.func11, Try.ntmps11
  go_wp2_with (first
    | (go_at_call 18; refine (lock_free Try.muLib ⟨kb, 0, none⟩ _ c0 (cz 0)).mono ?_; rintro e w' ⟨rfl, rfl⟩)
    | (go_at_call 22; refine HL.out.mono ?_; rintro e w2 ⟨v2, rfl, ho2, hb2⟩; have HO2 := Hid.mk ho2; have HB2 := Hid.mk hb2; clear ho2 hb2))
  have hK4 := HI.out.below HB2.out
  obtain ⟨g0, _, gz⟩ := hK4.cells
  have hK5 := hK4.guard 0
  refine leaves_cons (f := 19) (args := #[.pointer (some ⟨kb, 0, none⟩)]) (by simp) (by simp [go_sem]) ?_
  refine (unlock_deferred Try.muLib ⟨kb, 0, none⟩ .returning _ g0 (gz 0)).mono ?_
  rintro e u' w'' ⟨rfl, rfl, rfl⟩
  have ho := HO2.out
  simp only [World.size_setCell] at ho
  refine ⟨_, results_tmp rfl _ _ _, _, rfl, ?_, hK5, ((Kp.setCell (by simp)).trans (Kp.below HB2.out)).oldCell (by simp) _⟩
  exact ownsRow_setCell_below ho (a := ⟨kb, 0, none⟩) hlt _
end Go.Proofs.Ytafgecmenadhdaa
