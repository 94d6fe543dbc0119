/- Over any program that answers as the model: frees and waiting of package holdskeep. -/
import Derived.Test.YtaicdjhblbobbaaGreatPRowB
import Derived.BigQuiet
import Derived.Deep.Cut
import Derived.Deep.CutRange
import Derived.Deep.LoopGhost
namespace Go.Proofs.YtaicdjhblbobbaaGreat
open Go.RowKit

/-- The numbers l lie behind a. -/
def IRow (w : World) (a : Option Addr) (l : List Int) : Prop := ∀ (i : Nat) (x : Int), l[i]? = some x → ∃ b o, a = some ⟨b, o, none⟩ ∧ b < w.heap.size ∧ w.cell? ⟨b, o + i, none⟩ = some (.int .i64 x)
def DRow (w : World) (a : Option Addr) (l : List Dn) : Prop := ∀ (i : Nat) (x : Dn), l[i]? = some x → ∃ b, a = some ⟨b, 0, none⟩ ∧ b < w.heap.size ∧ w.cell? ⟨b, i * 2, none⟩ = some (.int .i64 x.p) ∧ w.cell? ⟨b, i * 2 + 1, none⟩ = some (.int .i64 x.e)
theorem IRow.below {w w' : World} {a : Option Addr} {l : List Int} (h : IRow w a l) (hb : Below w.heap.size w w') : IRow w' a l := fun i x hx => by
  obtain ⟨b, o, h1, h2, h3⟩ := h i x hx
  exact ⟨b, o, h1, by have := hb.size; omega, (hb.cell (p := ⟨b, o + i, none⟩) h2).trans h3⟩
theorem DRow.below {w w' : World} {a : Option Addr} {l : List Dn} (h : DRow w a l) (hb : Below w.heap.size w w') : DRow w' a l := fun i x hx => by
  obtain ⟨b, h1, h2, h3, h4⟩ := h i x hx
  exact ⟨b, h1, by have := hb.size; omega, (hb.cell (p := ⟨b, _, none⟩) h2).trans h3, (hb.cell (p := ⟨b, _, none⟩) h2).trans h4⟩
theorem IRow.nil (w : World) (a : Option Addr) : IRow w a [] := fun i x h => by simp at h
theorem DRow.nil (w : World) (a : Option Addr) : DRow w a [] := fun i x h => by simp at h
theorem IRow.own {w : World} {base : Nat} {t : TypeId} {a : Option Addr} {cp : Nat} {l : List Int} (h : w.ownsRow base t 1 (.slice a l.length cp) l.length (ints l)) : IRow w a l := fun i x hx => by
  have hi : i < l.length := (List.getElem?_eq_some_iff.1 hx).1
  rcases h.2 with ⟨hv, h0⟩ | ⟨g, cap, cur, hv, hg, hblk, hn, hm, hsz, htk⟩
  · omega
  · cases hv
    refine ⟨g, 0, rfl, (Array.getElem?_eq_some_iff.1 hblk).1, ?_⟩
    rw [Nat.zero_add, h.cellAt i (by simp; omega)]
    simp [ints, hx]
theorem flatD_get : ∀ (l : List Dn) (i : Nat) (x : Dn), l[i]? = some x → (flatD l)[i * 2]? = some (.int .i64 x.p) ∧ (flatD l)[i * 2 + 1]? = some (.int .i64 x.e)
  | [], i, x, h => by simp at h
  | d :: l, 0, x, h => by simp at h; subst h; simp [flatD, Dn.cells]
  | d :: l, i + 1, x, h => by
    have := flatD_get l i x (by simpa using h)
    rw [show (i + 1) * 2 = i * 2 + 1 + 1 by omega]
    simpa [flatD, Dn.cells] using this
theorem flatD_length (l : List Dn) : (flatD l).length = l.length * 2 := by
  induction l with
  | nil => rfl
  | cons d t ih => unfold flatD at *; rw [List.flatMap_cons, List.length_append, ih]; simp [Dn.cells]; omega
theorem DRow.own {w : World} {base : Nat} {t : TypeId} {a : Option Addr} {cp : Nat} {l : List Dn} (h : w.ownsRow base t 2 (.slice a l.length cp) l.length (flatD l)) : DRow w a l := fun i x hx => by
  have hi : i < l.length := (List.getElem?_eq_some_iff.1 hx).1
  obtain ⟨f1, f2⟩ := flatD_get l i x hx
  have hlen := flatD_length l
  rcases h.2 with ⟨hv, h0⟩ | ⟨g, cap, cur, hv, hg, hblk, hn, hm, hsz, htk⟩
  · omega
  · cases hv
    refine ⟨g, rfl, (Array.getElem?_eq_some_iff.1 hblk).1, ?_, ?_⟩
    · rw [h.cellAt (i * 2) (by omega)]; exact f1
    · rw [h.cellAt (i * 2 + 1) (by omega)]; exact f2

section
variable {rep : World → Nat → (Nat → Prop) → DS → Prop} (K : Face rep) {w0 w : World} {kb : Nat} {P : Nat → Prop} {s : DS}
include K
end
end Go.Proofs.YtaicdjhblbobbaaGreat

/- Over any program that answers as the model: what it tells, and that it stays as it was told. -/
namespace Go.Proofs.YtaicdjhblbobbaaGreat
open Go.RowKit

/-- Memory that is none of the Kernel's. -/
def Mine (P : Nat → Prop) (w : World) (a : Option Addr) : Prop := ∀ x, a = some x → x.block < w.heap.size ∧ ¬ P x.block
theorem Mine.upd {P P' : Nat → Prop} {w w' : World} {a : Option Addr} (h : Mine P w a) (hu : Upd P P' w w') : Mine P' w' a := fun x hx => by
  obtain ⟨h1, h2⟩ := h x hx
  exact ⟨Nat.lt_of_lt_of_le h1 hu.size, hu.still h1 h2⟩
theorem Mine.below {P : Nat → Prop} {w w' : World} {a : Option Addr} (h : Mine P w a) (hb : Below w.heap.size w w') : Mine P w' a := fun x hx => ⟨Nat.lt_of_lt_of_le (h x hx).1 hb.size, (h x hx).2⟩
theorem Mine.nil (P : Nat → Prop) (w : World) : Mine P w none := fun x h => by cases h
theorem Told.mine {w w' : World} {P : Nat → Prop} {t : TypeId} {sz : Nat} {a : Option Addr} {n cp : Nat} {xs : List Value} (h : Told w w' P t sz (.slice a n cp) n xs) : Mine P w' a := fun x hx => by
  subst hx
  obtain ⟨_, h2⟩ := h.own.lt x.block rfl
  exact ⟨h2, h.far x.block rfl⟩
theorem Mine.block {P P' : Nat → Prop} {w w' : World} {b o : Nat} (h : Mine P w (some ⟨b, o, none⟩)) (hu : Upd P P' w w') : w'.heap[b]? = w.heap[b]? := hu.block b (h _ rfl).1 (h _ rfl).2
theorem IRow.upd {P P' : Nat → Prop} {w w' : World} {a : Option Addr} {l : List Int} (h : IRow w a l) (hm : Mine P w a) (hu : Upd P P' w w') : IRow w' a l := fun i x hx => by
  obtain ⟨b, o, rfl, h2, h3⟩ := h i x hx
  exact ⟨b, o, rfl, Nat.lt_of_lt_of_le h2 hu.size, (World.cell?_of_block (a := ⟨b, o + i, none⟩) (hm.block hu)).trans h3⟩
theorem DRow.upd {P P' : Nat → Prop} {w w' : World} {a : Option Addr} {l : List Dn} (h : DRow w a l) (hm : Mine P w a) (hu : Upd P P' w w') : DRow w' a l := fun i x hx => by
  obtain ⟨b, rfl, h2, h3, h4⟩ := h i x hx
  exact ⟨b, rfl, Nat.lt_of_lt_of_le h2 hu.size, (World.cell?_of_block (a := ⟨b, _, none⟩) (hm.block hu)).trans h3, (World.cell?_of_block (a := ⟨b, _, none⟩) (hm.block hu)).trans h4⟩
/-- The runs l lie behind a. -/
def RRow (w : World) (a : Option Addr) (l : List Rn) : Prop := ∀ (i : Nat) (r : Rn), l[i]? = some r → ∃ b, a = some ⟨b, 0, none⟩ ∧ b < w.heap.size ∧
  w.cell? ⟨b, i * 4, none⟩ = some (.int .i64 r.p) ∧ w.cell? ⟨b, i * 4 + 1, none⟩ = some (.int .i64 r.k) ∧ w.cell? ⟨b, i * 4 + 2, none⟩ = some (.int .i64 r.f) ∧ w.cell? ⟨b, i * 4 + 3, none⟩ = some (.int .i64 r.t)
theorem RRow.blk {w w' : World} {a : Option Addr} {l : List Rn} (h : RRow w a l) (hs : w.heap.size ≤ w'.heap.size) (hb : ∀ b, a = some ⟨b, 0, none⟩ → b < w.heap.size → w'.heap[b]? = w.heap[b]?) : RRow w' a l := fun i x hx => by
  obtain ⟨b, rfl, h2, h3, h4, h5, h6⟩ := h i x hx
  have e := hb b rfl h2
  exact ⟨b, rfl, Nat.lt_of_lt_of_le h2 hs, (World.cell?_of_block (a := ⟨b, _, none⟩) e).trans h3, (World.cell?_of_block (a := ⟨b, _, none⟩) e).trans h4, (World.cell?_of_block (a := ⟨b, _, none⟩) e).trans h5, (World.cell?_of_block (a := ⟨b, _, none⟩) e).trans h6⟩
theorem RRow.below {w w' : World} {a : Option Addr} {l : List Rn} (h : RRow w a l) (hb : Below w.heap.size w w') : RRow w' a l := h.blk hb.size fun b _ hl => hb.block b hl
theorem RRow.upd {P P' : Nat → Prop} {w w' : World} {a : Option Addr} {l : List Rn} (h : RRow w a l) (hm : Mine P w a) (hu : Upd P P' w w') : RRow w' a l := h.blk hu.size fun b e _ => by subst e; exact hm.block hu
theorem flatR_get : ∀ (l : List Rn) (i : Nat) (x : Rn), l[i]? = some x → (flatR l)[i * 4]? = some (.int .i64 x.p) ∧ (flatR l)[i * 4 + 1]? = some (.int .i64 x.k) ∧ (flatR l)[i * 4 + 2]? = some (.int .i64 x.f) ∧ (flatR l)[i * 4 + 3]? = some (.int .i64 x.t)
  | [], i, x, h => by simp at h
  | d :: l, 0, x, h => by simp at h; subst h; simp [flatR, rcells]
  | d :: l, i + 1, x, h => by
    have := flatR_get l i x (by simpa using h)
    rw [show (i + 1) * 4 = i * 4 + 1 + 1 + 1 + 1 by omega]
    simpa [flatR, rcells] using this
theorem flatR_length (l : List Rn) : (flatR l).length = l.length * 4 := by
  induction l with
  | nil => rfl
  | cons d t ih => unfold flatR at *; rw [List.flatMap_cons, List.length_append, ih]; simp [rcells]; omega
theorem RRow.own {w : World} {base : Nat} {t : TypeId} {a : Option Addr} {cp : Nat} {l : List Rn} (h : w.ownsRow base t 4 (.slice a l.length cp) l.length (flatR l)) : RRow w a l := fun i x hx => by
  have hi : i < l.length := (List.getElem?_eq_some_iff.1 hx).1
  obtain ⟨f1, f2, f3, f4⟩ := flatR_get l i x hx
  have hlen := flatR_length l
  rcases h.2 with ⟨hv, h0⟩ | ⟨g, cap, cur, hv, hg, hblk, hn, hm, hsz, htk⟩
  · omega
  · cases hv
    refine ⟨g, rfl, (Array.getElem?_eq_some_iff.1 hblk).1, ?_, ?_, ?_, ?_⟩
    · rw [h.cellAt (i * 4) (by omega)]; exact f1
    · rw [h.cellAt (i * 4 + 1) (by omega)]; exact f2
    · rw [h.cellAt (i * 4 + 2) (by omega)]; exact f3
    · rw [h.cellAt (i * 4 + 3) (by omega)]; exact f4
/-- The locks of a whole file l lie behind a: of each its kind, and its list of processes. -/
def HRow (P : Nat → Prop) (w : World) (a : Option Addr) (l : List Hd) : Prop := ∀ (i : Nat) (x : Hd), l[i]? = some x → ∃ b u cp, a = some ⟨b, 0, none⟩ ∧ b < w.heap.size ∧
  w.cell? ⟨b, i * 2, none⟩ = some (.int .i64 x.k) ∧ w.cell? ⟨b, i * 2 + 1, none⟩ = some (.slice u x.ps.length cp) ∧ IRow w u x.ps ∧ Mine P w u ∧ (∀ y, u = some y → y.block ≠ b ∧ y.off = 0)
theorem HRow.below {P : Nat → Prop} {w w' : World} {a : Option Addr} {l : List Hd} (h : HRow P w a l) (hb : Below w.heap.size w w') : HRow P w' a l := fun i x hx => by
  obtain ⟨b, u, cp, rfl, h2, h3, h4, h5, h6, h7⟩ := h i x hx
  exact ⟨b, u, cp, rfl, by have := hb.size; omega, (hb.cell (p := ⟨b, _, none⟩) h2).trans h3, (hb.cell (p := ⟨b, _, none⟩) h2).trans h4, h5.below hb, h6.below hb, h7⟩
theorem HRow.upd {P P' : Nat → Prop} {w w' : World} {a : Option Addr} {l : List Hd} (h : HRow P w a l) (hm : Mine P w a) (hu : Upd P P' w w') : HRow P' w' a l := fun i x hx => by
  obtain ⟨b, u, cp, rfl, h2, h3, h4, h5, h6, h7⟩ := h i x hx
  have e := hm.block hu
  exact ⟨b, u, cp, rfl, Nat.lt_of_lt_of_le h2 hu.size, (World.cell?_of_block (a := ⟨b, _, none⟩) e).trans h3, (World.cell?_of_block (a := ⟨b, _, none⟩) e).trans h4, h5.upd h6 hu, h6.upd hu, h7⟩
theorem flatH_get : ∀ (l : List Hd) (vs : List Value) (i : Nat) (x : Hd) (u : Value), l[i]? = some x → vs[i]? = some u → (flatH l vs)[i * 2]? = some (.int .i64 x.k) ∧ (flatH l vs)[i * 2 + 1]? = some u
  | [], vs, i, x, u, h, _ => by simp at h
  | d :: l, [], i, x, u, _, h => by simp at h
  | d :: l, v :: vs, 0, x, u, h, g => by simp at h g; subst h g; simp [flatH]
  | d :: l, v :: vs, i + 1, x, u, h, g => by
    have := flatH_get l vs i x u (by simpa using h) (by simpa using g)
    rw [show (i + 1) * 2 = i * 2 + 1 + 1 by omega]
    simpa [flatH] using this
theorem flatH_length : ∀ (l : List Hd) (vs : List Value), vs.length = l.length → (flatH l vs).length = l.length * 2
  | [], vs, _ => by simp [flatH]
  | d :: l, [], h => by simp at h
  | d :: l, v :: vs, h => by have := flatH_length l vs (by simpa using h); simp [flatH]; omega
section
variable {rep : World → Nat → (Nat → Prop) → DS → Prop} (K : Face rep) {w0 w : World} {kb : Nat} {P : Nat → Prop} {s : DS}
include K
theorem KW.runs (h : KW rep w0 w kb P s) (f : Int) (hf : i64 f) {l : List Rn} (hl : s.runs f = l) :
    Calls Tryz.prog 21 #[kptr kb, .int .i64 f] w fun e w' => ∃ P' a cp, e = .returned (.slice a l.length cp) ∧ RRow w' a l ∧ Mine P' w' a ∧ KW rep w0 w' kb P' s ∧ Upd P P' w w' := by
  subst hl
  refine (K.runs f hf h.r).mono ?_
  rintro e w' ⟨P', v, rfl, ht, hr, hu⟩
  obtain ⟨a, cp, rfl⟩ := ht.slice
  exact ⟨P', a, cp, rfl, RRow.own ht.own, ht.mine, h.upd K hr hu, hu⟩
theorem KW.holds (h : KW rep w0 w kb P s) (f : Int) (hf : i64 f) {l : List Hd} (hl : s.holds f = l) :
    Calls Tryz.prog 27 #[kptr kb, .int .i64 f] w fun e w' => ∃ P' a cp, e = .returned (.slice a l.length cp) ∧ HRow P' w' a l ∧ Mine P' w' a ∧ KW rep w0 w' kb P' s ∧ Upd P P' w w' := by
  subst hl
  refine (K.holds f hf h.r).mono ?_
  rintro e w' ⟨P', v, vs, rfl, hvs, ht, hps, hpw, hr, hu⟩
  obtain ⟨a, cp, rfl⟩ := ht.slice
  refine ⟨P', a, cp, rfl, ?_, ht.mine, h.upd K hr hu, hu⟩
  intro i x hx
  have hi : i < (s.holds f).length := (List.getElem?_eq_some_iff.1 hx).1
  obtain ⟨u, hu'⟩ : ∃ u, vs[i]? = some u := ⟨vs[i], List.getElem?_eq_getElem (by omega)⟩
  obtain ⟨f1, f2⟩ := flatH_get _ _ i x u hx hu'
  have hlen := flatH_length _ _ hvs
  have htu := hps i x u hx hu'
  obtain ⟨au, cpu, rfl⟩ := htu.slice
  rcases ht.own.2 with ⟨hv, h0⟩ | ⟨g, cap, cur, hv, hg, hblk, hn, hm, hsz, htk⟩
  · omega
  · cases hv
    refine ⟨g, au, cpu, rfl, (Array.getElem?_eq_some_iff.1 hblk).1, ?_, ?_, IRow.own htu.own, htu.mine, ?_⟩
    · rw [ht.own.cellAt (i * 2) (by omega)]; exact f1
    · rw [ht.own.cellAt (i * 2 + 1) (by omega)]; exact f2
    · intro y hy
      subst hy
      have hmem := List.mem_of_getElem? hu'
      refine ⟨fun e => (List.pairwise_cons.1 hpw).1 _ hmem g rfl (by simp [Value.ownBlock, e]), ?_⟩
      rcases htu.own.2 with ⟨hv, _⟩ | ⟨g', cap', cur', hv, _⟩
      · cases hv
      · cases hv; rfl
end
end Go.Proofs.YtaicdjhblbobbaaGreat
