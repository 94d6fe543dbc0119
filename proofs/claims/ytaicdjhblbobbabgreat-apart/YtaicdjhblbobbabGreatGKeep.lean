/- Over any program that answers as the model: frees and waiting of package holdskeep. -/
import Derived.Test.YtaicdjhblbobbabGreatGFaceK
import Derived.BigQuiet
import Derived.Deep.Cut
import Derived.Deep.CutRange
import Derived.Deep.LoopGhost
namespace Go.Proofs.YtaicdjhblbobbabGreat
open Go.RowKit

/-- The numbers l lie behind a. -/
def IRow (w : World) (a : Option Addr) (l : List Int) : Prop := ∀ (i : Nat) (x : Int), l[i]? = some x → ∃ b o, a = some ⟨b, o, none⟩ ∧ b < w.heap.size ∧ w.cell? ⟨b, o + i, none⟩ = some (.int .i64 x)
def DRow (w : World) (a : Option Addr) (l : List Dn) : Prop := ∀ (i : Nat) (x : Dn), l[i]? = some x → ∃ b, a = some ⟨b, 0, none⟩ ∧ b < w.heap.size ∧ w.cell? ⟨b, i * 2, none⟩ = some (.int .i64 x.p) ∧ w.cell? ⟨b, i * 2 + 1, none⟩ = some (.int .i64 x.e)
theorem IRow.below {w w' : World} {a : Option Addr} {l : List Int} (h : IRow w a l) (hb : Below w.heap.size w w') : IRow w' a l := fun i x hx => by
  obtain ⟨b, o, h1, h2, h3⟩ := h i x hx
  exact ⟨b, o, h1, by have := hb.size; omega, (hb.cell (p := ⟨b, o + i, none⟩) h2).trans h3⟩
theorem DRow.below {w w' : World} {a : Option Addr} {l : List Dn} (h : DRow w a l) (hb : Below w.heap.size w w') : DRow w' a l := fun i x hx => by
  obtain ⟨b, h1, h2, h3, h4⟩ := h i x hx
  exact ⟨b, h1, by have := hb.size; omega, (hb.cell (p := ⟨b, _, none⟩) h2).trans h3, (hb.cell (p := ⟨b, _, none⟩) h2).trans h4⟩
theorem cell_new (w : World) (c : Array Value) (t : TypeId) (o : Nat) : (w.alloc (.cells c t)).cell? ⟨w.heap.size, o, none⟩ = c[o]? := by
  unfold World.cell?
  rw [heap_alloc_new]
  rfl
theorem cell_old {w : World} (x : Obj) {b o : Nat} (h : b < w.heap.size) : (w.alloc x).cell? ⟨b, o, none⟩ = w.cell? ⟨b, o, none⟩ :=
  ((Below.refl w.heap.size w).alloc (Nat.le_refl _) x).cell (p := ⟨b, o, none⟩) h
theorem IRow.nil (w : World) (a : Option Addr) : IRow w a [] := fun i x h => by simp at h
theorem DRow.nil (w : World) (a : Option Addr) : DRow w a [] := fun i x h => by simp at h
/-- A list of one number that was written down. -/
theorem IRow.lit1 (w : World) (x : Int) (t : TypeId) : IRow (w.alloc (.cells #[.int .i64 x] t)) (some ⟨w.heap.size, 0, none⟩) [x] := fun i y h => by
  cases i with
  | zero =>
    simp at h
    subst h
    exact ⟨_, _, rfl, by simp, by rw [cell_new]; rfl⟩
  | succ i => simp at h
theorem IRow.own {w : World} {base : Nat} {t : TypeId} {a : Option Addr} {cp : Nat} {l : List Int} (h : w.ownsRow base t 1 (.slice a l.length cp) l.length (ints l)) : IRow w a l := fun i x hx => by
  have hi : i < l.length := (List.getElem?_eq_some_iff.1 hx).1
  rcases h.2 with ⟨hv, h0⟩ | ⟨g, cap, cur, hv, hg, hblk, hn, hm, hsz, htk⟩
  · omega
  · cases hv
    refine ⟨g, 0, rfl, (Array.getElem?_eq_some_iff.1 hblk).1, ?_⟩
    rw [Nat.zero_add, h.cellAt i (by simp; omega)]
    simp [ints, hx]
theorem flatD_get : ∀ (l : List Dn) (i : Nat) (x : Dn), l[i]? = some x → (flatD l)[i * 2]? = some (.int .i64 x.p) ∧ (flatD l)[i * 2 + 1]? = some (.int .i64 x.e)
  | [], i, x, h => by simp at h
  | d :: l, 0, x, h => by simp at h; subst h; simp [flatD, Dn.cells]
  | d :: l, i + 1, x, h => by
    have := flatD_get l i x (by simpa using h)
    rw [show (i + 1) * 2 = i * 2 + 1 + 1 by omega]
    simpa [flatD, Dn.cells] using this
theorem flatD_length (l : List Dn) : (flatD l).length = l.length * 2 := by
  induction l with
  | nil => rfl
  | cons d t ih => unfold flatD at *; rw [List.flatMap_cons, List.length_append, ih]; simp [Dn.cells]; omega
theorem DRow.own {w : World} {base : Nat} {t : TypeId} {a : Option Addr} {cp : Nat} {l : List Dn} (h : w.ownsRow base t 2 (.slice a l.length cp) l.length (flatD l)) : DRow w a l := fun i x hx => by
  have hi : i < l.length := (List.getElem?_eq_some_iff.1 hx).1
  obtain ⟨f1, f2⟩ := flatD_get l i x hx
  have hlen := flatD_length l
  rcases h.2 with ⟨hv, h0⟩ | ⟨g, cap, cur, hv, hg, hblk, hn, hm, hsz, htk⟩
  · omega
  · cases hv
    refine ⟨g, rfl, (Array.getElem?_eq_some_iff.1 hblk).1, ?_, ?_⟩
    · rw [h.cellAt (i * 2) (by omega)]; exact f1
    · rw [h.cellAt (i * 2 + 1) (by omega)]; exact f2

set_option maxHeartbeats 4000000 in
set_option maxRecDepth 100000 in
theorem freesF (l : List Int) (a la : Option Addr) (cp lcp : Nat) (w : World) (hlen : l.length ≤ 1000) (hd : DRow w a (l.map fun q => ⟨q, 0⟩)) (hl : IRow w la l) :
    Calls Tryz.prog 15 #[.agg #[.int .i64 0, .int .i64 0, .slice a l.length cp], .slice la l.length lcp] w fun e w' => e = .returned (.bool true) ∧ Below w.heap.size w w' := by
  have HD := Hid.mk hd
  have HL := Hid.mk hl
  clear hd hl
  go_enter Tryz.func15, Tryz.ntmps15
  go_wp2
  go_loopg [5] (l.length + 1) (fun g s5 wr => ∃ (i : Nat), s5 = .int .i64 i ∧ i ≤ l.length ∧ g = l.length + 1 - i ∧ Hid (Below (w.heap.size + 1) (w.alloc (.cells #[.int .i64 0, .int .i64 0, .slice a l.length cp] 31)) wr))
  case atStart => exact ⟨0, rfl, by omega, by omega, Below.refl _ _⟩
  case round =>
    obtain ⟨i, rfl, hi, rfl, HB⟩ := hrel
    by_cases hlt : i < l.length
    · obtain ⟨b, rfl, hb0, hb1, hb2⟩ := HD.out i ⟨l[i], 0⟩ (by simp [hlt])
      obtain ⟨lb, lo, rfl, hlb, hlc⟩ := HL.out i l[i] (by simp [hlt])
      have x0 : wr.cell? ⟨w.heap.size, 2, none⟩ = some (.slice (some ⟨b, 0, none⟩) l.length cp) := (HB.out.cell (p := ⟨w.heap.size, 2, none⟩) (by simp)).trans (by rw [cell_new]; rfl)
      have x1 : wr.cell? ⟨b, i * 2, none⟩ = some (.int .i64 l[i]) := (HB.out.cell (p := ⟨b, i * 2, none⟩) (by simp; omega)).trans ((cell_old _ hb0).trans hb1)
      have x2 : wr.cell? ⟨b, i * 2 + 1, none⟩ = some (.int .i64 0) := (HB.out.cell (p := ⟨b, i * 2 + 1, none⟩) (by simp; omega)).trans ((cell_old _ hb0).trans hb2)
      have x3 : wr.cell? ⟨lb, lo + i, none⟩ = some (.int .i64 l[i]) := (HB.out.cell (p := ⟨lb, lo + i, none⟩) (by simp; omega)).trans ((cell_old _ hlb).trans hlc)
      generalize l[i] = y at *
      go_upto_region 6 with fail
      go_quiet (fail)
      go_wp2
      go_roundg (l.length + 1 - (i + 1))
      case measure => omega
      case rel => exact ⟨i + 1, by go_num, by omega, rfl, below_drewN HB.out _⟩
    · obtain rfl : i = l.length := by omega
      go_wp2
      go_ret
      exact ⟨rfl, (((Below.refl _ _).alloc (Nat.le_refl _) _).trans (HB.out.mono (Nat.le_succ _)))⟩

section
variable {rep : World → Nat → (Nat → Prop) → DS → Prop} (K : Face rep) {w0 w : World} {kb : Nat} {P : Nat → Prop} {s : DS}
include K
set_option maxHeartbeats 4000000 in
set_option maxRecDepth 100000 in
theorem waitingF (h : KW rep w0 w kb P s) (l : List Int) (la : Option Addr) (lcp : Nat) (hs : s.waiting = l) (hlen : l.length ≤ 1000) (hl : IRow w la l) (hn : ∀ b o, la = some ⟨b, o, none⟩ → ¬ P b) :
    Calls Tryz.prog 16 #[kptr kb, .slice la l.length lcp] w fun e w' => ∃ P', e = .returned (.bool true) ∧ KW rep w0 w' kb P' s ∧ Upd P P' w w' := by
  have HL := Hid.mk hl
  have HW := Hid.mk (K.waiting h.r)
  have H := Hid.mk h
  have HN := Hid.mk hn
  clear hl h hn
  go_enter Tryz.func16, Tryz.ntmps16
  go_wp2_with (go_at_call 13; refine HW.out.mono ?_; rintro e w1 ⟨P1, v, rfl, ht, hr, hu⟩; rw [hs] at ht; obtain ⟨a, cp, rfl⟩ := ht.slice; have HA := Hid.mk (IRow.own ht.own); have HK1 := Hid.mk (H.out.upd K hr hu); have HU := Hid.mk hu; clear ht hr hu)
  go_loopg [6] (l.length + 1) (fun g s6 wr => ∃ (i : Nat), s6 = .int .i64 i ∧ i ≤ l.length ∧ g = l.length + 1 - i ∧ Hid (∃ N, wr = w1.drewN N))
  case atStart => exact ⟨0, rfl, by omega, by omega, ⟨0, rfl⟩⟩
  case round =>
    obtain ⟨i, rfl, hi, rfl, HWR⟩ := hrel
    by_cases hlt : i < l.length
    · obtain ⟨b, o, rfl, hb0, hb1⟩ := HA.out i l[i] (by simp [hlt])
      obtain ⟨lb, lo, rfl, hlb, hlc⟩ := HL.out i l[i] (by simp [hlt])
      have x1 : wr.cell? ⟨b, o + i, none⟩ = some (.int .i64 l[i]) := by obtain ⟨N, hwr⟩ := HWR.out; rw [hwr]; exact hb1
      have x2 : wr.cell? ⟨lb, lo + i, none⟩ = some (.int .i64 l[i]) := by
        obtain ⟨N, hwr⟩ := HWR.out
        rw [hwr]
        refine Eq.trans ?_ hlc
        exact World.cell?_of_block (HU.out.block lb hlb (HN.out lb lo rfl))
      generalize l[i] = y at *
      clear hb1 hlc
      go_upto_region 7 with fail
      go_quiet (fail)
      go_wp2
      go_roundg (l.length + 1 - (i + 1))
      case measure => omega
      case rel => exact ⟨i + 1, by go_num, by omega, rfl, by obtain ⟨N, hwr⟩ := HWR.out; exact ⟨N + _, by rw [hwr]; simp [World.drewN, Nat.add_assoc]; rfl⟩⟩
    · obtain rfl : i = l.length := by omega
      go_wp2
      go_ret
      obtain ⟨N, hwr⟩ := HWR.out
      subst hwr
      exact ⟨P1, rfl, HK1.out.drew K _, ⟨HU.out.os, HU.out.tape, HU.out.output, HU.out.size, HU.out.block, HU.out.old⟩⟩
end
end Go.Proofs.YtaicdjhblbobbabGreat

/- Over any program that answers as the model: what it tells, and that it stays as it was told. -/
namespace Go.Proofs.YtaicdjhblbobbabGreat
open Go.RowKit

/-- Memory that is none of the Kernel's. -/
def Mine (P : Nat → Prop) (w : World) (a : Option Addr) : Prop := ∀ x, a = some x → x.block < w.heap.size ∧ ¬ P x.block
theorem Mine.upd {P P' : Nat → Prop} {w w' : World} {a : Option Addr} (h : Mine P w a) (hu : Upd P P' w w') : Mine P' w' a := fun x hx => by
  obtain ⟨h1, h2⟩ := h x hx
  exact ⟨Nat.lt_of_lt_of_le h1 hu.size, hu.still h1 h2⟩
theorem Mine.below {P : Nat → Prop} {w w' : World} {a : Option Addr} (h : Mine P w a) (hb : Below w.heap.size w w') : Mine P w' a := fun x hx => ⟨Nat.lt_of_lt_of_le (h x hx).1 hb.size, (h x hx).2⟩
theorem Mine.nil (P : Nat → Prop) (w : World) : Mine P w none := fun x h => by cases h
theorem Told.mine {w w' : World} {P : Nat → Prop} {t : TypeId} {sz : Nat} {a : Option Addr} {n cp : Nat} {xs : List Value} (h : Told w w' P t sz (.slice a n cp) n xs) : Mine P w' a := fun x hx => by
  subst hx
  obtain ⟨_, h2⟩ := h.own.lt x.block rfl
  exact ⟨h2, h.far x.block rfl⟩
theorem Mine.block {P P' : Nat → Prop} {w w' : World} {b o : Nat} (h : Mine P w (some ⟨b, o, none⟩)) (hu : Upd P P' w w') : w'.heap[b]? = w.heap[b]? := hu.block b (h _ rfl).1 (h _ rfl).2
theorem IRow.upd {P P' : Nat → Prop} {w w' : World} {a : Option Addr} {l : List Int} (h : IRow w a l) (hm : Mine P w a) (hu : Upd P P' w w') : IRow w' a l := fun i x hx => by
  obtain ⟨b, o, rfl, h2, h3⟩ := h i x hx
  exact ⟨b, o, rfl, Nat.lt_of_lt_of_le h2 hu.size, (World.cell?_of_block (a := ⟨b, o + i, none⟩) (hm.block hu)).trans h3⟩
theorem DRow.upd {P P' : Nat → Prop} {w w' : World} {a : Option Addr} {l : List Dn} (h : DRow w a l) (hm : Mine P w a) (hu : Upd P P' w w') : DRow w' a l := fun i x hx => by
  obtain ⟨b, rfl, h2, h3, h4⟩ := h i x hx
  exact ⟨b, rfl, Nat.lt_of_lt_of_le h2 hu.size, (World.cell?_of_block (a := ⟨b, _, none⟩) (hm.block hu)).trans h3, (World.cell?_of_block (a := ⟨b, _, none⟩) (hm.block hu)).trans h4⟩
/-- The runs l lie behind a. -/
def RRow (w : World) (a : Option Addr) (l : List Rn) : Prop := ∀ (i : Nat) (r : Rn), l[i]? = some r → ∃ b, a = some ⟨b, 0, none⟩ ∧ b < w.heap.size ∧
  w.cell? ⟨b, i * 4, none⟩ = some (.int .i64 r.p) ∧ w.cell? ⟨b, i * 4 + 1, none⟩ = some (.int .i64 r.k) ∧ w.cell? ⟨b, i * 4 + 2, none⟩ = some (.int .i64 r.f) ∧ w.cell? ⟨b, i * 4 + 3, none⟩ = some (.int .i64 r.t)
theorem RRow.blk {w w' : World} {a : Option Addr} {l : List Rn} (h : RRow w a l) (hs : w.heap.size ≤ w'.heap.size) (hb : ∀ b, a = some ⟨b, 0, none⟩ → b < w.heap.size → w'.heap[b]? = w.heap[b]?) : RRow w' a l := fun i x hx => by
  obtain ⟨b, rfl, h2, h3, h4, h5, h6⟩ := h i x hx
  have e := hb b rfl h2
  exact ⟨b, rfl, Nat.lt_of_lt_of_le h2 hs, (World.cell?_of_block (a := ⟨b, _, none⟩) e).trans h3, (World.cell?_of_block (a := ⟨b, _, none⟩) e).trans h4, (World.cell?_of_block (a := ⟨b, _, none⟩) e).trans h5, (World.cell?_of_block (a := ⟨b, _, none⟩) e).trans h6⟩
theorem RRow.below {w w' : World} {a : Option Addr} {l : List Rn} (h : RRow w a l) (hb : Below w.heap.size w w') : RRow w' a l := h.blk hb.size fun b _ hl => hb.block b hl
theorem RRow.upd {P P' : Nat → Prop} {w w' : World} {a : Option Addr} {l : List Rn} (h : RRow w a l) (hm : Mine P w a) (hu : Upd P P' w w') : RRow w' a l := h.blk hu.size fun b e _ => by subst e; exact hm.block hu
theorem flatR_get : ∀ (l : List Rn) (i : Nat) (x : Rn), l[i]? = some x → (flatR l)[i * 4]? = some (.int .i64 x.p) ∧ (flatR l)[i * 4 + 1]? = some (.int .i64 x.k) ∧ (flatR l)[i * 4 + 2]? = some (.int .i64 x.f) ∧ (flatR l)[i * 4 + 3]? = some (.int .i64 x.t)
  | [], i, x, h => by simp at h
  | d :: l, 0, x, h => by simp at h; subst h; simp [flatR, rcells]
  | d :: l, i + 1, x, h => by
    have := flatR_get l i x (by simpa using h)
    rw [show (i + 1) * 4 = i * 4 + 1 + 1 + 1 + 1 by omega]
    simpa [flatR, rcells] using this
theorem flatR_length (l : List Rn) : (flatR l).length = l.length * 4 := by
  induction l with
  | nil => rfl
  | cons d t ih => unfold flatR at *; rw [List.flatMap_cons, List.length_append, ih]; simp [rcells]; omega
theorem RRow.own {w : World} {base : Nat} {t : TypeId} {a : Option Addr} {cp : Nat} {l : List Rn} (h : w.ownsRow base t 4 (.slice a l.length cp) l.length (flatR l)) : RRow w a l := fun i x hx => by
  have hi : i < l.length := (List.getElem?_eq_some_iff.1 hx).1
  obtain ⟨f1, f2, f3, f4⟩ := flatR_get l i x hx
  have hlen := flatR_length l
  rcases h.2 with ⟨hv, h0⟩ | ⟨g, cap, cur, hv, hg, hblk, hn, hm, hsz, htk⟩
  · omega
  · cases hv
    refine ⟨g, rfl, (Array.getElem?_eq_some_iff.1 hblk).1, ?_, ?_, ?_, ?_⟩
    · rw [h.cellAt (i * 4) (by omega)]; exact f1
    · rw [h.cellAt (i * 4 + 1) (by omega)]; exact f2
    · rw [h.cellAt (i * 4 + 2) (by omega)]; exact f3
    · rw [h.cellAt (i * 4 + 3) (by omega)]; exact f4
/-- The locks of a whole file l lie behind a: of each its kind, and its list of processes. -/
def HRow (P : Nat → Prop) (w : World) (a : Option Addr) (l : List Hd) : Prop := ∀ (i : Nat) (x : Hd), l[i]? = some x → ∃ b u cp, a = some ⟨b, 0, none⟩ ∧ b < w.heap.size ∧
  w.cell? ⟨b, i * 2, none⟩ = some (.int .i64 x.k) ∧ w.cell? ⟨b, i * 2 + 1, none⟩ = some (.slice u x.ps.length cp) ∧ IRow w u x.ps ∧ Mine P w u ∧ (∀ y, u = some y → y.block ≠ b ∧ y.off = 0)
theorem HRow.below {P : Nat → Prop} {w w' : World} {a : Option Addr} {l : List Hd} (h : HRow P w a l) (hb : Below w.heap.size w w') : HRow P w' a l := fun i x hx => by
  obtain ⟨b, u, cp, rfl, h2, h3, h4, h5, h6, h7⟩ := h i x hx
  exact ⟨b, u, cp, rfl, by have := hb.size; omega, (hb.cell (p := ⟨b, _, none⟩) h2).trans h3, (hb.cell (p := ⟨b, _, none⟩) h2).trans h4, h5.below hb, h6.below hb, h7⟩
theorem HRow.upd {P P' : Nat → Prop} {w w' : World} {a : Option Addr} {l : List Hd} (h : HRow P w a l) (hm : Mine P w a) (hu : Upd P P' w w') : HRow P' w' a l := fun i x hx => by
  obtain ⟨b, u, cp, rfl, h2, h3, h4, h5, h6, h7⟩ := h i x hx
  have e := hm.block hu
  exact ⟨b, u, cp, rfl, Nat.lt_of_lt_of_le h2 hu.size, (World.cell?_of_block (a := ⟨b, _, none⟩) e).trans h3, (World.cell?_of_block (a := ⟨b, _, none⟩) e).trans h4, h5.upd h6 hu, h6.upd hu, h7⟩
theorem flatH_get : ∀ (l : List Hd) (vs : List Value) (i : Nat) (x : Hd) (u : Value), l[i]? = some x → vs[i]? = some u → (flatH l vs)[i * 2]? = some (.int .i64 x.k) ∧ (flatH l vs)[i * 2 + 1]? = some u
  | [], vs, i, x, u, h, _ => by simp at h
  | d :: l, [], i, x, u, _, h => by simp at h
  | d :: l, v :: vs, 0, x, u, h, g => by simp at h g; subst h g; simp [flatH]
  | d :: l, v :: vs, i + 1, x, u, h, g => by
    have := flatH_get l vs i x u (by simpa using h) (by simpa using g)
    rw [show (i + 1) * 2 = i * 2 + 1 + 1 by omega]
    simpa [flatH] using this
theorem flatH_length : ∀ (l : List Hd) (vs : List Value), vs.length = l.length → (flatH l vs).length = l.length * 2
  | [], vs, _ => by simp [flatH]
  | d :: l, [], h => by simp at h
  | d :: l, v :: vs, h => by have := flatH_length l vs (by simpa using h); simp [flatH]; omega
section
variable {rep : World → Nat → (Nat → Prop) → DS → Prop} (K : Face rep) {w0 w : World} {kb : Nat} {P : Nat → Prop} {s : DS}
include K
theorem KW.runs (h : KW rep w0 w kb P s) (f : Int) (hf : i64 f) {l : List Rn} (hl : s.runs f = l) :
    Calls Tryz.prog 12 #[kptr kb, .int .i64 f] w fun e w' => ∃ P' a cp, e = .returned (.slice a l.length cp) ∧ RRow w' a l ∧ Mine P' w' a ∧ KW rep w0 w' kb P' s ∧ Upd P P' w w' := by
  subst hl
  refine (K.runs f hf h.r).mono ?_
  rintro e w' ⟨P', v, rfl, ht, hr, hu⟩
  obtain ⟨a, cp, rfl⟩ := ht.slice
  exact ⟨P', a, cp, rfl, RRow.own ht.own, ht.mine, h.upd K hr hu, hu⟩
theorem KW.waitingT (h : KW rep w0 w kb P s) {l : List Int} (hl : s.waiting = l) :
    Calls Tryz.prog 13 #[kptr kb] w fun e w' => ∃ P' a cp, e = .returned (.slice a l.length cp) ∧ IRow w' a l ∧ Mine P' w' a ∧ (∀ x, a = some x → w.heap.size ≤ x.block) ∧ KW rep w0 w' kb P' s ∧ Upd P P' w w' := by
  subst hl
  refine (K.waiting h.r).mono ?_
  rintro e w' ⟨P', v, rfl, ht, hr, hu⟩
  obtain ⟨a, cp, rfl⟩ := ht.slice
  exact ⟨P', a, cp, rfl, IRow.own ht.own, ht.mine, fun x hx => by subst hx; exact (ht.own.lt x.block rfl).1, h.upd K hr hu, hu⟩
theorem KW.holds (h : KW rep w0 w kb P s) (f : Int) (hf : i64 f) {l : List Hd} (hl : s.holds f = l) :
    Calls Tryz.prog 14 #[kptr kb, .int .i64 f] w fun e w' => ∃ P' a cp, e = .returned (.slice a l.length cp) ∧ HRow P' w' a l ∧ Mine P' w' a ∧ KW rep w0 w' kb P' s ∧ Upd P P' w w' := by
  subst hl
  refine (K.holds f hf h.r).mono ?_
  rintro e w' ⟨P', v, vs, rfl, hvs, ht, hps, hpw, hr, hu⟩
  obtain ⟨a, cp, rfl⟩ := ht.slice
  refine ⟨P', a, cp, rfl, ?_, ht.mine, h.upd K hr hu, hu⟩
  intro i x hx
  have hi : i < (s.holds f).length := (List.getElem?_eq_some_iff.1 hx).1
  obtain ⟨u, hu'⟩ : ∃ u, vs[i]? = some u := ⟨vs[i], List.getElem?_eq_getElem (by omega)⟩
  obtain ⟨f1, f2⟩ := flatH_get _ _ i x u hx hu'
  have hlen := flatH_length _ _ hvs
  have htu := hps i x u hx hu'
  obtain ⟨au, cpu, rfl⟩ := htu.slice
  rcases ht.own.2 with ⟨hv, h0⟩ | ⟨g, cap, cur, hv, hg, hblk, hn, hm, hsz, htk⟩
  · omega
  · cases hv
    refine ⟨g, au, cpu, rfl, (Array.getElem?_eq_some_iff.1 hblk).1, ?_, ?_, IRow.own htu.own, htu.mine, ?_⟩
    · rw [ht.own.cellAt (i * 2) (by omega)]; exact f1
    · rw [ht.own.cellAt (i * 2 + 1) (by omega)]; exact f2
    · intro y hy
      subst hy
      have hmem := List.mem_of_getElem? hu'
      refine ⟨fun e => (List.pairwise_cons.1 hpw).1 _ hmem g rfl (by simp [Value.ownBlock, e]), ?_⟩
      rcases htu.own.2 with ⟨hv, _⟩ | ⟨g', cap', cur', hv, _⟩
      · cases hv
      · cases hv; rfl
end
end Go.Proofs.YtaicdjhblbobbabGreat
