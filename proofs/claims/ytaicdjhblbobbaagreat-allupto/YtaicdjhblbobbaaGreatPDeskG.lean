/- Contracts of the document's answer, on: a file is opened. -/
import Derived.Test.YtaicdjhblbobbaaGreatPDeskA
import Derived.Test.YtaicdjhblbobbaaGreatPRowB
import Derived.Deep.RegionHeld3
import Derived.Deep.RegionLaw
import Derived.Test.YtaicdjhblbobbaaGreatPWake
namespace Go.Proofs.YtaicdjhblbobbaaGreat
open Go.RowKit Go.Lib

theorem Tryz.infoOg : (Tryz.prog.info? 215).map (fun i => (i.zero, i.size, i.bytes)) = some (some (.agg #[.int .i64 0, .int .i64 0, .int .i64 0]), 3, 24) := by kernel_rfl
theorem flatO_snoc (l : List Og) (x : Og) : flatO (l ++ [x]) = flatO l ++ ogC x := by simp [flatO]
set_option maxHeartbeats 8000000 in
set_option maxRecDepth 100000 in
theorem dOpen_ok {w : World} {db : Nat} {P : Nat → Prop} {d : DK} {ov qv : Value} (h : DV w db P d ov qv) (hs : d.Sm) (hP : ∀ b, w.heap.size ≤ b → P b) {p f i : Nat} (hp : p < 6) (hf : f < 3) (hi : i < 5) (he : d.may p = 0) (hl : d.least p = i) :
    Calls Tryz.prog 100 #[dkPtr db, .int .i64 p, .int .i64 f] w fun r w' => r = .returned (.tuple #[.int .i64 i, .int .i64 0]) ∧ (∃ ov', DV w' db P {d with O := d.O ++ [⟨f, 0, 0⟩], G := putG d.G p i ((d.O.length : Int) + 1)} ov' qv) ∧ Upd P P w w' := by
  have HM := Hid.mk (dMay_any h hs p)
  have HL := Hid.mk (dLeast_any h p hp)
  rw [he] at HM
  rw [hl] at HL
  have HV := Hid.mk h
  have hdb := h.k.lt
  have hol := hs.o
  have c36 := h.k.cO
  have HNE := Hid.mk (fun e : ov.ownBlock = some db => h.ne_o e rfl)
  obtain ⟨oa, oc, rfl⟩ := own_form h.o
  have HO := Hid.mk h.o
  have HK := Hid.mk h.k
  have f0 : ¬ ((f : Int) < 0) := by omega
  have f3 : ¬ (3 ≤ (f : Int)) := by omega
  have f3' : (f : Int) < 3 := by omega
  have hp' : (p : Int) < 6 := by omega
  have hi' : (i : Int) < 5 := by omega
  have hi0 : ¬ ((i : Int) < 0) := by omega
  have HPP := Hid.mk hP
  have HI := Hid.mk hi
  have HPI := Hid.mk hp
  clear h hs he hl hP
  unfold dkPtr at *
  go_enter Tryz.func100, Tryz.ntmps100
  go_wp2_with (first
    | (go_at_call 136; refine HM.out.mono ?_; rintro r w1 ⟨rfl, hw⟩; have hw2 := hw.symm; clear hw; subst hw2)
    | (go_at_call 137; refine HL.out.mono ?_; rintro r w1 ⟨rfl, hw⟩; have hw2 := hw.symm; clear hw; subst hw2)
    | (at_builtin; refine wpList_snocL rfl _ _ _ rfl Tryz.underlying165 Tryz.infoOg rfl (by decide) (by decide) rfl HO.out (Nat.zero_le _) (by omega) (cs := #[.int .i64 (f : Int), .int .i64 0, .int .i64 0]) rfl (by simp) rfl (by simp [Value.oneCell']) ?_; intro v2 w2 ho2 hb2 hz2 hold2 hwh2; obtain ⟨a2, c2, rfl⟩ := own_form ho2; have hk2 := HK.out.of_block (hold2 db hdb HNE.out); have d36 := hk2.cO; have e36 := hk2.frozen 36; have hdb2 := hk2.lt; have hkO := hk2.setO (d.O ++ [⟨f, 0, 0⟩]) (.slice a2 (d.O.length + 1) c2); have cg := hkO.cG HPI.out HI.out; have fg := hkO.frozen (6 + p * 5 + i); have HO2 := Hid.mk ho2; have HB2 := Hid.mk hb2; have HOL := Hid.mk hold2; have HWH := Hid.mk hwh2; have HKO := Hid.mk hkO; clear ho2 hb2 hold2 hwh2 hkO hk2))
  go_region
  go_wp2
  go_ret2
  refine ⟨rfl, ⟨.slice a2 (d.O.length + 1) c2, ?_⟩, ?_⟩
  · refine DV.make (w := w2) (HK.out.of_block (HOL.out db hdb HNE.out)) ((HKO.out.setG HPI.out HI.out _).of_block rfl) ?_ ?_ (fun b hb => (Below.heap_setCell _ _ _ _ hb).trans (Below.heap_setCell _ _ _ _ hb)) HV.out.pk (fun b e => ?_) HV.out.pq
    · have ho := HO2.out
      simp only [List.length_append]
      rw [flatO_snoc]
      exact ho
    · exact own_blk HV.out.q fun b e => HOL.out b (own_lt HV.out.q e) fun e2 => HV.out.ne_oq e2 e
    · rcases HWH.out b e with h1 | h1
      · exact HV.out.po b h1
      · exact HPP.out b h1
  · have hu : Upd P P w w2 := ⟨HB2.out.os, HB2.out.tape, HB2.out.output, hz2, fun k hk hn => HOL.out k hk (fun e => hn (HV.out.po k e)), fun _ _ h => h⟩
    exact ((hu.cell HV.out.pk _).drewN _).cell HV.out.pk _
end Go.Proofs.YtaicdjhblbobbaaGreat

/- Contract of the document's answer: New. -/
namespace Go.Proofs.YtaicdjhblbobbaaGreat
open Go.RowKit Go.Lib

def zeroD : List Value := List.replicate 6 (.bool false) ++ (List.replicate 30 (.int .i64 0) ++ (.slice none 0 0 :: (List.replicate 1152 (.int .i64 0) ++ [.slice none 0 0, .int .i64 0])))
theorem Tryz.zeroDesk : Tryz.zeroCells171 = zeroD.toArray := by kernel_rfl
theorem zeroD_len : zeroD.length = 1191 := by
  unfold zeroD
  simp only [List.length_append, List.length_replicate, List.length_cons, List.length_nil]
theorem zeroD_get (j : Nat) : zeroD[j]? = if j < 6 then some (.bool false) else if j < 36 then some (.int .i64 0) else if j = 36 then some (.slice none 0 0) else if j < 1189 then some (.int .i64 0) else if j = 1189 then some (.slice none 0 0) else if j = 1190 then some (.int .i64 0) else none := by
  unfold zeroD
  rw [List.getElem?_append, List.length_replicate]
  split
  · rename_i h; rw [List.getElem?_replicate, if_pos h]
  · rename_i h6
    rw [List.getElem?_append, List.length_replicate]
    by_cases h36 : j < 36
    · rw [if_pos (by omega), if_pos h36, List.getElem?_replicate, if_pos (by omega)]
    · rw [if_neg (by omega), if_neg h36]
      by_cases e36 : j = 36
      · subst e36; rfl
      · rw [if_neg e36, show j - 6 - 30 = (j - 37) + 1 by omega, List.getElem?_cons_succ, List.getElem?_append, List.length_replicate]
        by_cases h1189 : j < 1189
        · rw [if_pos (by omega), if_pos h1189, List.getElem?_replicate, if_pos (by omega)]
        · rw [if_neg (by omega), if_neg h1189]
          by_cases e1 : j = 1189
          · subst e1; rfl
          · rw [if_neg e1]
            by_cases e2 : j = 1190
            · subst e2; rfl
            · rw [if_neg e2, List.getElem?_eq_none (by simp; omega)]
theorem newDesk : DeskC (zeroD.toArray.setIfInBounds 0 (.bool true)) ⟨fun i => i == 0, fun _ _ => 0, [], fun _ _ _ => 0, [], 0⟩ (.slice none 0 0) (.slice none 0 0) := by
  have hl : zeroD.toArray.size = 1191 := by rw [List.size_toArray]; exact zeroD_len
  have g : ∀ j : Nat, zeroD.toArray[j]? = zeroD[j]? := fun j => List.getElem?_toArray
  refine ⟨by rw [Array.size_setIfInBounds]; exact hl, fun i hi => ?_, fun p e hp he => ?_, ?_, fun f i p hf hi hp => ?_, ?_, ?_⟩
  · by_cases e : i = 0
    · subst e; exact set_self (by omega)
    · rw [set_other (fun h => e h.symm), g, zeroD_get, if_pos hi]
      have : (i == 0) = false := by simpa using e
      simp [this]
  · rw [set_other (by omega), g, zeroD_get, if_neg (by omega), if_pos (by omega)]
  · rw [set_other (by omega), g, zeroD_get]; rfl
  · rw [set_other (by omega), g, zeroD_get, if_neg (by omega), if_neg (by omega), if_neg (by omega), if_pos (by omega)]
  · rw [set_other (by omega), g, zeroD_get]; rfl
  · rw [set_other (by omega), g, zeroD_get]; rfl
set_option maxHeartbeats 8000000 in
set_option maxRecDepth 100000 in
theorem dNew_any (w : World) :
    Calls Tryz.prog 63 #[] w fun r w' => r = .returned (dkPtr w.heap.size) ∧ DeskB w' w.heap.size ⟨fun i => i == 0, fun _ _ => 0, [], fun _ _ _ => 0, [], 0⟩ (.slice none 0 0) (.slice none 0 0) ∧ Below w.heap.size w w' := by
  unfold dkPtr
  go_enter Tryz.func63, Tryz.ntmps63
  go_wp2
  go_ret
  refine ⟨rfl, ⟨_, heap_alloc_new w _, ?_⟩, (Below.refl _ _).alloc (Nat.le_refl _) _⟩
  rw [Tryz.zeroDesk]
  exact newDesk
end Go.Proofs.YtaicdjhblbobbaaGreat

/- The lists that came out, as the statements keep them: rows of lists, each written full with its mark, and made longer. -/
namespace Go.Proofs.YtaicdjhblbobbaaGreat
open Go.RowKit Go.Lib

/-- A list, and those that are longer by one, two and three; its mark; its length. -/
structure En where
  l : Value
  a : Value
  b : Value
  c : Value
  m : Int
  n : Nat
def En.cells (x : En) : List Value := [x.l, x.a, x.b, x.c, .int .i64 x.m]
def flatE (l : List En) : List Value := l.flatMap En.cells
theorem En.cells_len (x : En) : x.cells.length = 5 := rfl
theorem flatE_snoc (l : List En) (x : En) : flatE (l ++ [x]) = flatE l ++ x.cells := by simp [flatE]
def En.vs (x : En) : List Value := [x.l, x.a, x.b, x.c]
/-- They read as their owner wrote them. -/
structure EnOk (w : World) (t : TypeId) (cs : Int → List Value) (P : Nat → Prop) (x : En) : Prop where
  l : Mk w t (cs x.m) x.l x.n x.n
  a : Mk w t (cs x.m) x.a (x.n + 1) (x.n + 1)
  b : Mk w t (cs x.m) x.b (x.n + 2) (x.n + 2)
  c : Mk w t (cs x.m) x.c (x.n + 3) (x.n + 3)
  p : ∀ v, v ∈ x.vs → ∀ b, v.ownBlock = some b → P b
  s : x.n ≤ 1000000
theorem EnOk.frame {w w' : World} {t : TypeId} {cs : Int → List Value} {P P' : Nat → Prop} {x : En} (h : EnOk w t cs P x) (hb : ∀ v, v ∈ x.vs → ∀ b, v.ownBlock = some b → w'.heap[b]? = w.heap[b]? ∧ P' b) : EnOk w' t cs P' x :=
  ⟨h.l.blk fun b e => (hb _ (by simp [En.vs]) b e).1, h.a.blk fun b e => (hb _ (by simp [En.vs]) b e).1, h.b.blk fun b e => (hb _ (by simp [En.vs]) b e).1, h.c.blk fun b e => (hb _ (by simp [En.vs]) b e).1, fun v hv b e => (hb v hv b e).2, h.s⟩
theorem EnOk.tag {w : World} {t : TypeId} {cs : Int → List Value} {P : Nat → Prop} {x : En} (h : EnOk w t cs P x) {v : Value} (hv : v ∈ x.vs) {b : Nat} (e : v.ownBlock = some b) : ∃ cur, w.heap[b]? = some (.cells cur t (0, 0)) := by
  simp only [En.vs, List.mem_cons, List.not_mem_nil, or_false] at hv
  rcases hv with rfl | rfl | rfl | rfl
  · exact h.l.tag e
  · exact h.a.tag e
  · exact h.b.tag e
  · exact h.c.tag e
/-- A row of the book. -/
structure BkRow (w : World) (te t : TypeId) (cs : Int → List Value) (P : Nat → Prop) (v : Value) (es : List En) : Prop where
  own : w.ownsRow 0 te 5 v es.length (flatE es)
  ok : ∀ x, x ∈ es → EnOk w t cs P x
  pb : ∀ b, v.ownBlock = some b → P b
section
variable {w w' : World} {te t : TypeId} {cs : Int → List Value} {P P' : Nat → Prop} {v v' : Value} {es : List En}
theorem BkRow.nil (w : World) (te t : TypeId) (cs : Int → List Value) (P : Nat → Prop) : BkRow w te t cs P (.slice none 0 0) [] := ⟨World.ownsRow_nil _ _ _ _, fun x hx => (by cases hx), fun b e => (by cases e)⟩
theorem BkRow.frame (h : BkRow w te t cs P v es) (hb : ∀ b, P b → w'.heap[b]? = w.heap[b]? ∧ P' b) : BkRow w' te t cs P' v es :=
  ⟨own_blk h.own fun b e => (hb b (h.pb b e)).1, fun x hx => (h.ok x hx).frame fun u hu b e => hb b ((h.ok x hx).p u hu b e), fun b e => (hb b (h.pb b e)).2⟩
/-- Its blocks, by type. -/
theorem BkRow.narrow (h : BkRow w te t cs P v es) (hb : ∀ b cur s, P b → w.heap[b]? = some (.cells cur s (0, 0)) → s = te ∨ s = t → w'.heap[b]? = w.heap[b]? ∧ P' b) : BkRow w' te t cs P' v es := by
  have h1 : ∀ b, v.ownBlock = some b → w'.heap[b]? = w.heap[b]? ∧ P' b := fun b e => by
    obtain ⟨cur, hc⟩ := own_type h.own e
    exact hb b cur te (h.pb b e) hc (Or.inl rfl)
  refine ⟨own_blk h.own fun b e => (h1 b e).1, fun x hx => (h.ok x hx).frame fun u hu b e => ?_, fun b e => (h1 b e).2⟩
  obtain ⟨cur, hc⟩ := (h.ok x hx).tag hu e
  exact hb b cur t ((h.ok x hx).p u hu b e) hc (Or.inr rfl)
/-- One more. -/
theorem BkRow.snoc (h : BkRow w te t cs P v es) (hne : t ≠ te) {x : En} (hx : EnOk w t cs P x) (ho : w'.ownsRow 0 te 5 v' (es.length + 1) (flatE es ++ x.cells)) (hold : ∀ b, b < w.heap.size → v.ownBlock ≠ some b → w'.heap[b]? = w.heap[b]?) (hp : ∀ b, v'.ownBlock = some b → P b) : BkRow w' te t cs P v' (es ++ [x]) := by
  have key : ∀ y, EnOk w t cs P y → EnOk w' t cs P y := fun y hy => hy.frame fun u hu b e => by
    obtain ⟨cur, hc⟩ := hy.tag hu e
    refine ⟨hold b (Array.getElem?_eq_some_iff.1 hc).1 fun e2 => ?_, hy.p u hu b e⟩
    obtain ⟨cur2, hc2⟩ := own_type h.own e2
    rw [hc] at hc2
    cases hc2
    exact hne rfl
  refine ⟨by rw [List.length_append, flatE_snoc]; exact ho, fun y hy => ?_, hp⟩
  rcases List.mem_append.1 hy with hy | hy
  · exact key y (h.ok y hy)
  · rw [List.mem_singleton] at hy
    subst hy
    exact key _ hx
theorem BkRow.get {a : Option Addr} {c n : Nat} (h : BkRow w te t cs P (.slice a es.length c) es) {x : En} (hx : es[n]? = some x) :
    ∃ g, a = some ⟨g, 0, none⟩ ∧ g < w.heap.size ∧ w.cell? ⟨g, n * 5, none⟩ = some x.l ∧ w.cell? ⟨g, n * 5 + 1, none⟩ = some x.a ∧ w.cell? ⟨g, n * 5 + 2, none⟩ = some x.b ∧ w.cell? ⟨g, n * 5 + 3, none⟩ = some x.c ∧ w.cell? ⟨g, n * 5 + 4, none⟩ = some (.int .i64 x.m) := by
  have hn : n < es.length := (List.getElem?_eq_some_iff.1 hx).1
  obtain ⟨g, rfl, _, hg, _, hc⟩ := own_some h.own (by omega)
  refine ⟨g, rfl, hg, ?_, ?_, ?_, ?_, ?_⟩ <;> (rw [hc _ (by omega)]; unfold flatE)
  · exact flat_get En.cells 5 En.cells_len es n 0 x hx (by omega)
  · exact flat_get En.cells 5 En.cells_len es n 1 x hx (by omega)
  · exact flat_get En.cells 5 En.cells_len es n 2 x hx (by omega)
  · exact flat_get En.cells 5 En.cells_len es n 3 x hx (by omega)
  · exact flat_get En.cells 5 En.cells_len es n 4 x hx (by omega)
end
def csI (m : Int) : List Value := [.int .i64 m]
def csD (m : Int) : List Value := [.int .i64 m, .int .i64 0]
def csR (m : Int) : List Value := [.int .i64 m, .int .i64 0, .int .i64 0, .int .i64 0]
def csH (m : Int) : List Value := [.int .i64 m, .slice none 0 0]
/-- The statements' world in block wb: the Kernels and Desks, the book; all its blocks of P; nothing in it longer than N. -/
structure WB (w : World) (wb : Nat) (P : Nat → Prop) (N : Nat) (ks ds : List Nat) (xv yv iv dv rv fv : Value) (n : Int) (ei ed er ef : List En) : Prop where
  blk : w.heap[wb]? = some (.cells #[xv, yv, .int .i64 n, iv, dv, rv, fv] 73 (0, 0))
  x : w.ownsRow 0 26 1 xv ks.length (ks.map kptr)
  y : w.ownsRow 0 110 1 yv ds.length (ds.map dkPtr)
  i : BkRow w 115 3 csI P iv ei
  d : BkRow w 118 57 csD P dv ed
  r : BkRow w 121 41 csR P rv er
  f : BkRow w 124 55 csH P fv ef
  pw : P wb
  px : ∀ b, xv.ownBlock = some b → P b
  py : ∀ b, yv.ownBlock = some b → P b
  n0 : 0 ≤ n ∧ n ≤ N
  li : ei.length ≤ N
  ld : ed.length ≤ N
  lr : er.length ≤ N
  lf : ef.length ≤ N
section
variable {w w' : World} {wb : Nat} {P P' : Nat → Prop} {N : Nat} {ks ds : List Nat} {xv yv iv dv rv fv : Value} {n : Int} {ei ed er ef : List En}
theorem WB.lt (h : WB w wb P N ks ds xv yv iv dv rv fv n ei ed er ef) : wb < w.heap.size := (Array.getElem?_eq_some_iff.1 h.blk).1
theorem WB.frame (h : WB w wb P N ks ds xv yv iv dv rv fv n ei ed er ef) (hb : ∀ b, P b → b < w.heap.size → w'.heap[b]? = w.heap[b]? ∧ P' b) : WB w' wb P' N ks ds xv yv iv dv rv fv n ei ed er ef := by
  have nar : ∀ {te t : TypeId} {cs : Int → List Value} {v : Value} {es : List En}, BkRow w te t cs P v es → BkRow w' te t cs P' v es := fun h => h.narrow fun b cur s hp hc _ => hb b hp (Array.getElem?_eq_some_iff.1 hc).1
  exact ⟨(hb wb h.pw h.lt).1.trans h.blk, own_blk h.x fun b e => (hb b (h.px b e) (own_lt h.x e)).1, own_blk h.y fun b e => (hb b (h.py b e) (own_lt h.y e)).1, nar h.i, nar h.d, nar h.r, nar h.f, (hb wb h.pw h.lt).2, fun b e => (hb b (h.px b e) (own_lt h.x e)).2, fun b e => (hb b (h.py b e) (own_lt h.y e)).2, h.n0, h.li, h.ld, h.lr, h.lf⟩
theorem WB.cell (h : WB w wb P N ks ds xv yv iv dv rv fv n ei ed er ef) (j : Nat) : w.cell? ⟨wb, j, none⟩ = #[xv, yv, .int .i64 n, iv, dv, rv, fv][j]? := by
  simp only [World.cell?, h.blk]
  simp
theorem WB.frozen (h : WB w wb P N ks ds xv yv iv dv rv fv n ei ed er ef) (j : Nat) : w.frozen? ⟨wb, j, none⟩ = false := by
  simp only [World.frozen?, h.blk]
  simp
/-- Only its own block and a list's turn. -/
theorem WB.turn {v : Value} {n' : Int} {N' : Nat} (h : WB w wb P N ks ds xv yv iv dv rv fv n ei ed er ef) (hk : KD wb v w w') (hv : ∀ b, v.ownBlock = some b → ¬ P b) (hP : ∀ b, P b → P' b) (hblk : w'.heap[wb]? = some (.cells #[xv, yv, .int .i64 n', iv, dv, rv, fv] 73 (0, 0))) (hn : 0 ≤ n' ∧ n' ≤ N') (hN : N ≤ N') : WB w' wb P' N' ks ds xv yv iv dv rv fv n' ei ed er ef := by
  have blk : ∀ b cur t, P b → w.heap[b]? = some (.cells cur t (0, 0)) → t ≠ 73 → w'.heap[b]? = w.heap[b]? := fun b cur t hp hc ht => by
    refine hk.block b (Array.getElem?_eq_some_iff.1 hc).1 (fun e => ?_) (fun e => hv b e hp)
    rw [e, h.blk] at hc
    cases hc
    exact ht rfl
  have row : ∀ {t : TypeId} {sz m : Nat} {u : Value} {xs : List Value}, w.ownsRow 0 t sz u m xs → (∀ b, u.ownBlock = some b → P b) → t ≠ 73 → w'.ownsRow 0 t sz u m xs := fun ho hp ht => own_blk ho fun b e => by
    obtain ⟨cur, hc⟩ := own_type ho e
    exact blk b cur _ (hp b e) hc ht
  have nar : ∀ {te t : TypeId} {cs : Int → List Value} {u : Value} {es : List En}, BkRow w te t cs P u es → te ≠ 73 → t ≠ 73 → BkRow w' te t cs P' u es := fun h h1 h2 => h.narrow fun b cur s hp hc hs => ⟨blk b cur s hp hc (by rcases hs with rfl | rfl; exact h1; exact h2), hP b hp⟩
  exact ⟨hblk, row h.x h.px (by decide), row h.y h.py (by decide), nar h.i (by decide) (by decide), nar h.d (by decide) (by decide), nar h.r (by decide) (by decide), nar h.f (by decide) (by decide), hP _ h.pw, fun b e => hP b (h.px b e), fun b e => hP b (h.py b e), hn, Nat.le_trans h.li hN, Nat.le_trans h.ld hN, Nat.le_trans h.lr hN, Nat.le_trans h.lf hN⟩
theorem setWB {c : Array Value} {o : Nat} {u : Value} (h : w.heap[wb]? = some (.cells c 73 (0, 0))) : (w.setCell ⟨wb, o, none⟩ u).heap[wb]? = some (.cells (c.setIfInBounds o u) 73 (0, 0)) := setDesk_at h
/-- One more in the row of holdslaw.Ints. -/
theorem WB.addI {v' : Value} {N' : Nat} {x : En} (h : WB w wb P N ks ds xv yv iv dv rv fv n ei ed er ef) (hN : N + 1 ≤ N') (hx : EnOk w 3 csI P x) (ho : w'.ownsRow 0 115 5 v' (ei.length + 1) (flatE ei ++ x.cells)) (hold : ∀ b, b < w.heap.size → iv.ownBlock ≠ some b → w'.heap[b]? = w.heap[b]?) (hp : ∀ b, v'.ownBlock = some b → P b) :
    WB (w'.setCell ⟨wb, 3, none⟩ v') wb P N' ks ds xv yv v' dv rv fv n (ei ++ [x]) ed er ef := by
  have blk : ∀ b cur t, b < w.heap.size → w.heap[b]? = some (.cells cur t (0, 0)) → t ≠ 115 → w'.heap[b]? = w.heap[b]? := fun b cur t hb hc ht => hold b hb fun e => by
    obtain ⟨cur2, hc2⟩ := own_type h.i.own e
    rw [hc] at hc2
    cases hc2
    exact ht rfl
  have hwb := blk wb _ _ h.lt h.blk (by decide)
  have ne : ∀ (b : Nat) (cur : Array Value) (t : TypeId), w'.heap[b]? = some (.cells cur t (0, 0)) → t ≠ 73 → (w'.setCell ⟨wb, 3, none⟩ v').heap[b]? = w'.heap[b]? := fun b cur t hc ht => Below.heap_setCell _ _ _ _ fun e => by
    have e : b = wb := e
    rw [e, hwb, h.blk] at hc
    cases hc
    exact ht rfl
  have row : ∀ {t : TypeId} {sz m : Nat} {u : Value} {xs : List Value}, w.ownsRow 0 t sz u m xs → t ≠ 73 → t ≠ 115 → (w'.setCell ⟨wb, 3, none⟩ v').ownsRow 0 t sz u m xs := fun ho h1 h2 => own_blk ho fun b e => by
    obtain ⟨cur, hc⟩ := own_type ho e
    have h3 := blk b cur _ (own_lt ho e) hc h2
    exact (ne b cur _ (h3.trans hc) h1).trans h3
  have nar : ∀ {te2 t : TypeId} {cs : Int → List Value} {u : Value} {es : List En}, BkRow w te2 t cs P u es → (te2 ≠ 73 ∧ te2 ≠ 115) → (t ≠ 73 ∧ t ≠ 115) → BkRow (w'.setCell ⟨wb, 3, none⟩ v') te2 t cs P u es := fun h h1 h2 => h.narrow fun b cur s hp hc hs => by
    have hss : s ≠ 73 ∧ s ≠ 115 := by rcases hs with rfl | rfl; exact h1; exact h2
    have h3 := blk b cur s (Array.getElem?_eq_some_iff.1 hc).1 hc hss.2
    exact ⟨(ne b cur s (h3.trans hc) hss.1).trans h3, hp⟩
  have hrow0 := h.i.snoc (by decide) hx ho hold hp
  have hrow : BkRow (w'.setCell ⟨wb, 3, none⟩ v') 115 3 csI P v' (ei ++ [x]) := hrow0.narrow fun b cur s hp hc hs => ⟨ne b cur s hc (by rcases hs with rfl | rfl <;> decide), hp⟩
  exact ⟨(setWB (hwb.trans h.blk)).trans rfl, row h.x (by decide) (by decide), row h.y (by decide) (by decide), hrow, nar h.d (by decide) (by decide), nar h.r (by decide) (by decide), nar h.f (by decide) (by decide), h.pw, h.px, h.py, ⟨h.n0.1, by have := h.n0.2; omega⟩, by rw [List.length_append]; have := h.li; simp; omega, Nat.le_trans h.ld (by omega), Nat.le_trans h.lr (by omega), Nat.le_trans h.lf (by omega)⟩
/-- One more in the row of holdslaw.Dones. -/
theorem WB.addD {v' : Value} {N' : Nat} {x : En} (h : WB w wb P N ks ds xv yv iv dv rv fv n ei ed er ef) (hN : N + 1 ≤ N') (hx : EnOk w 57 csD P x) (ho : w'.ownsRow 0 118 5 v' (ed.length + 1) (flatE ed ++ x.cells)) (hold : ∀ b, b < w.heap.size → dv.ownBlock ≠ some b → w'.heap[b]? = w.heap[b]?) (hp : ∀ b, v'.ownBlock = some b → P b) :
    WB (w'.setCell ⟨wb, 4, none⟩ v') wb P N' ks ds xv yv iv v' rv fv n ei (ed ++ [x]) er ef := by
  have blk : ∀ b cur t, b < w.heap.size → w.heap[b]? = some (.cells cur t (0, 0)) → t ≠ 118 → w'.heap[b]? = w.heap[b]? := fun b cur t hb hc ht => hold b hb fun e => by
    obtain ⟨cur2, hc2⟩ := own_type h.d.own e
    rw [hc] at hc2
    cases hc2
    exact ht rfl
  have hwb := blk wb _ _ h.lt h.blk (by decide)
  have ne : ∀ (b : Nat) (cur : Array Value) (t : TypeId), w'.heap[b]? = some (.cells cur t (0, 0)) → t ≠ 73 → (w'.setCell ⟨wb, 4, none⟩ v').heap[b]? = w'.heap[b]? := fun b cur t hc ht => Below.heap_setCell _ _ _ _ fun e => by
    have e : b = wb := e
    rw [e, hwb, h.blk] at hc
    cases hc
    exact ht rfl
  have row : ∀ {t : TypeId} {sz m : Nat} {u : Value} {xs : List Value}, w.ownsRow 0 t sz u m xs → t ≠ 73 → t ≠ 118 → (w'.setCell ⟨wb, 4, none⟩ v').ownsRow 0 t sz u m xs := fun ho h1 h2 => own_blk ho fun b e => by
    obtain ⟨cur, hc⟩ := own_type ho e
    have h3 := blk b cur _ (own_lt ho e) hc h2
    exact (ne b cur _ (h3.trans hc) h1).trans h3
  have nar : ∀ {te2 t : TypeId} {cs : Int → List Value} {u : Value} {es : List En}, BkRow w te2 t cs P u es → (te2 ≠ 73 ∧ te2 ≠ 118) → (t ≠ 73 ∧ t ≠ 118) → BkRow (w'.setCell ⟨wb, 4, none⟩ v') te2 t cs P u es := fun h h1 h2 => h.narrow fun b cur s hp hc hs => by
    have hss : s ≠ 73 ∧ s ≠ 118 := by rcases hs with rfl | rfl; exact h1; exact h2
    have h3 := blk b cur s (Array.getElem?_eq_some_iff.1 hc).1 hc hss.2
    exact ⟨(ne b cur s (h3.trans hc) hss.1).trans h3, hp⟩
  have hrow0 := h.d.snoc (by decide) hx ho hold hp
  have hrow : BkRow (w'.setCell ⟨wb, 4, none⟩ v') 118 57 csD P v' (ed ++ [x]) := hrow0.narrow fun b cur s hp hc hs => ⟨ne b cur s hc (by rcases hs with rfl | rfl <;> decide), hp⟩
  exact ⟨(setWB (hwb.trans h.blk)).trans rfl, row h.x (by decide) (by decide), row h.y (by decide) (by decide), nar h.i (by decide) (by decide), hrow, nar h.r (by decide) (by decide), nar h.f (by decide) (by decide), h.pw, h.px, h.py, ⟨h.n0.1, by have := h.n0.2; omega⟩, Nat.le_trans h.li (by omega), by rw [List.length_append]; have := h.ld; simp; omega, Nat.le_trans h.lr (by omega), Nat.le_trans h.lf (by omega)⟩
/-- One more in the row of holdslaw.Runs. -/
theorem WB.addR {v' : Value} {N' : Nat} {x : En} (h : WB w wb P N ks ds xv yv iv dv rv fv n ei ed er ef) (hN : N + 1 ≤ N') (hx : EnOk w 41 csR P x) (ho : w'.ownsRow 0 121 5 v' (er.length + 1) (flatE er ++ x.cells)) (hold : ∀ b, b < w.heap.size → rv.ownBlock ≠ some b → w'.heap[b]? = w.heap[b]?) (hp : ∀ b, v'.ownBlock = some b → P b) :
    WB (w'.setCell ⟨wb, 5, none⟩ v') wb P N' ks ds xv yv iv dv v' fv n ei ed (er ++ [x]) ef := by
  have blk : ∀ b cur t, b < w.heap.size → w.heap[b]? = some (.cells cur t (0, 0)) → t ≠ 121 → w'.heap[b]? = w.heap[b]? := fun b cur t hb hc ht => hold b hb fun e => by
    obtain ⟨cur2, hc2⟩ := own_type h.r.own e
    rw [hc] at hc2
    cases hc2
    exact ht rfl
  have hwb := blk wb _ _ h.lt h.blk (by decide)
  have ne : ∀ (b : Nat) (cur : Array Value) (t : TypeId), w'.heap[b]? = some (.cells cur t (0, 0)) → t ≠ 73 → (w'.setCell ⟨wb, 5, none⟩ v').heap[b]? = w'.heap[b]? := fun b cur t hc ht => Below.heap_setCell _ _ _ _ fun e => by
    have e : b = wb := e
    rw [e, hwb, h.blk] at hc
    cases hc
    exact ht rfl
  have row : ∀ {t : TypeId} {sz m : Nat} {u : Value} {xs : List Value}, w.ownsRow 0 t sz u m xs → t ≠ 73 → t ≠ 121 → (w'.setCell ⟨wb, 5, none⟩ v').ownsRow 0 t sz u m xs := fun ho h1 h2 => own_blk ho fun b e => by
    obtain ⟨cur, hc⟩ := own_type ho e
    have h3 := blk b cur _ (own_lt ho e) hc h2
    exact (ne b cur _ (h3.trans hc) h1).trans h3
  have nar : ∀ {te2 t : TypeId} {cs : Int → List Value} {u : Value} {es : List En}, BkRow w te2 t cs P u es → (te2 ≠ 73 ∧ te2 ≠ 121) → (t ≠ 73 ∧ t ≠ 121) → BkRow (w'.setCell ⟨wb, 5, none⟩ v') te2 t cs P u es := fun h h1 h2 => h.narrow fun b cur s hp hc hs => by
    have hss : s ≠ 73 ∧ s ≠ 121 := by rcases hs with rfl | rfl; exact h1; exact h2
    have h3 := blk b cur s (Array.getElem?_eq_some_iff.1 hc).1 hc hss.2
    exact ⟨(ne b cur s (h3.trans hc) hss.1).trans h3, hp⟩
  have hrow0 := h.r.snoc (by decide) hx ho hold hp
  have hrow : BkRow (w'.setCell ⟨wb, 5, none⟩ v') 121 41 csR P v' (er ++ [x]) := hrow0.narrow fun b cur s hp hc hs => ⟨ne b cur s hc (by rcases hs with rfl | rfl <;> decide), hp⟩
  exact ⟨(setWB (hwb.trans h.blk)).trans rfl, row h.x (by decide) (by decide), row h.y (by decide) (by decide), nar h.i (by decide) (by decide), nar h.d (by decide) (by decide), hrow, nar h.f (by decide) (by decide), h.pw, h.px, h.py, ⟨h.n0.1, by have := h.n0.2; omega⟩, Nat.le_trans h.li (by omega), Nat.le_trans h.ld (by omega), by rw [List.length_append]; have := h.lr; simp; omega, Nat.le_trans h.lf (by omega)⟩
/-- One more in the row of holdslaw.Files. -/
theorem WB.addF {v' : Value} {N' : Nat} {x : En} (h : WB w wb P N ks ds xv yv iv dv rv fv n ei ed er ef) (hN : N + 1 ≤ N') (hx : EnOk w 55 csH P x) (ho : w'.ownsRow 0 124 5 v' (ef.length + 1) (flatE ef ++ x.cells)) (hold : ∀ b, b < w.heap.size → fv.ownBlock ≠ some b → w'.heap[b]? = w.heap[b]?) (hp : ∀ b, v'.ownBlock = some b → P b) :
    WB (w'.setCell ⟨wb, 6, none⟩ v') wb P N' ks ds xv yv iv dv rv v' n ei ed er (ef ++ [x]) := by
  have blk : ∀ b cur t, b < w.heap.size → w.heap[b]? = some (.cells cur t (0, 0)) → t ≠ 124 → w'.heap[b]? = w.heap[b]? := fun b cur t hb hc ht => hold b hb fun e => by
    obtain ⟨cur2, hc2⟩ := own_type h.f.own e
    rw [hc] at hc2
    cases hc2
    exact ht rfl
  have hwb := blk wb _ _ h.lt h.blk (by decide)
  have ne : ∀ (b : Nat) (cur : Array Value) (t : TypeId), w'.heap[b]? = some (.cells cur t (0, 0)) → t ≠ 73 → (w'.setCell ⟨wb, 6, none⟩ v').heap[b]? = w'.heap[b]? := fun b cur t hc ht => Below.heap_setCell _ _ _ _ fun e => by
    have e : b = wb := e
    rw [e, hwb, h.blk] at hc
    cases hc
    exact ht rfl
  have row : ∀ {t : TypeId} {sz m : Nat} {u : Value} {xs : List Value}, w.ownsRow 0 t sz u m xs → t ≠ 73 → t ≠ 124 → (w'.setCell ⟨wb, 6, none⟩ v').ownsRow 0 t sz u m xs := fun ho h1 h2 => own_blk ho fun b e => by
    obtain ⟨cur, hc⟩ := own_type ho e
    have h3 := blk b cur _ (own_lt ho e) hc h2
    exact (ne b cur _ (h3.trans hc) h1).trans h3
  have nar : ∀ {te2 t : TypeId} {cs : Int → List Value} {u : Value} {es : List En}, BkRow w te2 t cs P u es → (te2 ≠ 73 ∧ te2 ≠ 124) → (t ≠ 73 ∧ t ≠ 124) → BkRow (w'.setCell ⟨wb, 6, none⟩ v') te2 t cs P u es := fun h h1 h2 => h.narrow fun b cur s hp hc hs => by
    have hss : s ≠ 73 ∧ s ≠ 124 := by rcases hs with rfl | rfl; exact h1; exact h2
    have h3 := blk b cur s (Array.getElem?_eq_some_iff.1 hc).1 hc hss.2
    exact ⟨(ne b cur s (h3.trans hc) hss.1).trans h3, hp⟩
  have hrow0 := h.f.snoc (by decide) hx ho hold hp
  have hrow : BkRow (w'.setCell ⟨wb, 6, none⟩ v') 124 55 csH P v' (ef ++ [x]) := hrow0.narrow fun b cur s hp hc hs => ⟨ne b cur s hc (by rcases hs with rfl | rfl <;> decide), hp⟩
  exact ⟨(setWB (hwb.trans h.blk)).trans rfl, row h.x (by decide) (by decide), row h.y (by decide) (by decide), nar h.i (by decide) (by decide), nar h.d (by decide) (by decide), nar h.r (by decide) (by decide), hrow, h.pw, h.px, h.py, ⟨h.n0.1, by have := h.n0.2; omega⟩, Nat.le_trans h.li (by omega), Nat.le_trans h.ld (by omega), Nat.le_trans h.lr (by omega), by rw [List.length_append]; have := h.lf; simp; omega⟩
end
end Go.Proofs.YtaicdjhblbobbaaGreat

/- append of marks in a walk. -/
namespace Go.Proofs.YtaicdjhblbobbaaGreat
open Go.RowKit Go.Lib

theorem Mk.alloc {w : World} {t : TypeId} {cs : List Value} {v : Value} {k i : Nat} (h : Mk w t cs v k i) (o : Obj) : Mk (w.alloc o) t cs v k i := h.blk fun _ e => Below.heap_alloc _ _ _ (h.lt e)
theorem wpList_marks {ops : Array Oper} {rest : List Oper} {o : Oper} {a : Act} {Q : Exit → Act → World → Prop} (hgd : o.guard = none) (s x : Operand) (t : TypeId)
    (ho : o.op = .call { callee := .builtin .append, args := #[s, x], argTypes := #[t, t] }) {e : TypeId} {z : Value} {sz by' : Nat} (hu : Tryz.prog.underlying t = some (.slice e))
    (hinf : (Tryz.prog.info? e).map (fun i => (i.zero, i.size, i.bytes)) = some (some z, sz, by')) (hzs : z.cells.size = sz) (h0 : 0 < sz) (hby : by' ≤ 1000)
    {w : World} {v : Value} {n : Nat} {cs : List Value} (hcs : cs.length = sz) (h1 : ∀ u ∈ cs, u.oneCell' = true) (hs : a.eval s = v) (hown : Mk w e cs v n n) (hn : n ≤ 10000000000)
    {m : Nat} (hm : 0 < m ∧ m ≤ 10) {X : Array Value} {bb : Nat} (hx : a.eval x = .slice (some ⟨bb, 0, none⟩) m m) (hbb : bb = w.heap.size) (hX : X.toList = marks cs m)
    (h : ∀ v' w', Mk w' e cs v' (n + m) (n + m) → (∀ u k j, Mk w e cs u k j → Mk w' e cs u k j) → Below 0 w w' → w.heap.size ≤ w'.heap.size → (∀ b, b < w.heap.size → v.ownBlock ≠ some b → w'.heap[b]? = w.heap[b]?) → (∀ b, v'.ownBlock = some b → v.ownBlock = some b ∨ w.heap.size ≤ b) → wpList Tryz.prog ops Q rest (a.put o.dst v') w') :
    wpList Tryz.prog ops Q (o :: rest) a (w.alloc (.cells X e)) := by
  subst hbb
  subst hcs
  obtain ⟨i0, hi0, hz0, hz1, hz2⟩ := info_get hinf
  have hblk : (w.alloc (.cells X e)).heap[w.heap.size]? = some (.cells X e (0, 0)) := heap_alloc_new w _
  have hcell : ∀ j, j < m * cs.length → (w.alloc (.cells X e)).cell? ((⟨w.heap.size, 0, none⟩ : Addr).add j) = cs[j % cs.length]? := fun j hj => by
    have e1 : (⟨w.heap.size, 0, none⟩ : Addr).add j = ⟨w.heap.size, j, none⟩ := by unfold Addr.add; split <;> simp_all
    rw [e1]
    simp only [World.cell?, hblk]
    rw [← marks_get h0 hj, ← hX]
    simp
  have hbyt : (n + m) * by' ≤ 140737488355328 := by
    have : (n + m) * by' ≤ 10000000010 * 1000 := Nat.mul_le_mul (by omega) hby
    omega
  obtain ⟨v', w', hr, hown', hall, hgr, hwhere⟩ := mk_append (P := Tryz.prog) (ty := o.type) (w.alloc (.cells X e)) hu hi0 hz0 hz1 hz2 hzs h0 h1 (hown.alloc _) ⟨w.heap.size, 0, none⟩ (c := m) hm.1 hcell (by unfold maxLen; omega) hbyt
  refine Lib.wpList_append_run _ hgd s x t t ho v _ hs hx v' w' hr ?_
  have hz := hgr.size
  simp at hz
  refine h v' w' hown' (fun u k j hu => hall u k j (hu.alloc _)) ?_ (by omega) (fun b hb' hne => ?_) (fun b hb' => ?_)
  · exact ⟨hgr.os, hgr.tape, hgr.output, by omega, fun k hk => absurd hk (Nat.not_lt_zero _)⟩
  · rw [hgr.block b (by simp; omega) (fun e' => hne e'.symm)]
    exact Below.heap_alloc _ _ _ hb'
  · rcases hwhere b hb' with h2 | h2
    · exact Or.inl h2
    · right; simp at h2; omega
end Go.Proofs.YtaicdjhblbobbaaGreat

/- A list and the longer ones that are made of it, step by step. -/
namespace Go.Proofs.YtaicdjhblbobbaaGreat
open Go.RowKit Go.Lib

structure AP (w W : World) (wb bx : Nat) (t te : TypeId) (cs : List Value) (v : Value) (k : Nat) (ls : List (Value × Nat)) (box wc : Array Value) : Prop where
  lst : ∀ x, x ∈ ls → Mk W t cs x.1 x.2 x.2 ∧ ∀ b, x.1.ownBlock = some b → v.ownBlock = some b ∨ w.heap.size ≤ b
  hv : Mk W t cs v k k
  kd : KD wb v w W
  hwb : W.heap[wb]? = some (.cells wc 73 (0, 0))
  hbx : W.heap[bx]? = some (.cells box te (0, 0))
  lo : w.heap.size ≤ bx
section
variable {w W W' : World} {wb bx : Nat} {t te : TypeId} {cs : List Value} {v v' : Value} {k j : Nat} {ls : List (Value × Nat)} {box wc : Array Value}
theorem AP.start {wl : World} (hv : Mk wl t cs v k k) (kd : KD wb v w wl) (hwb : wl.heap[wb]? = some (.cells wc 73 (0, 0))) (box : Array Value) : AP w (wl.alloc (.cells box te)) wb wl.heap.size t te cs v k [] box wc :=
  ⟨fun x hx => (by cases hx), hv.alloc _, kd.alloc _, (Below.heap_alloc _ _ _ (Array.getElem?_eq_some_iff.1 hwb).1).trans hwb, heap_alloc_new wl _, kd.size⟩
theorem AP.ne (h : AP w W wb bx t te cs v k ls box wc) (ht : t ≠ te) : v.ownBlock ≠ some bx := fun e => by
  obtain ⟨cur, hc⟩ := h.hv.tag e
  rw [h.hbx] at hc
  cases hc
  exact ht rfl
/-- Behind the append: the box's cell. -/
theorem AP.cell (h : AP w W wb bx t te cs v k ls box wc) (ht : t ≠ te) (hold : ∀ b, b < W.heap.size → v.ownBlock ≠ some b → W'.heap[b]? = W.heap[b]?) (i : Nat) : W'.cell? ⟨bx, i, none⟩ = box[i]? ∧ W'.frozen? ⟨bx, i, none⟩ = false := by
  have hb := (hold bx (Array.getElem?_eq_some_iff.1 h.hbx).1 (h.ne ht)).trans h.hbx
  refine ⟨?_, ?_⟩
  · simp only [World.cell?, hb]; simp
  · simp only [World.frozen?, hb]; simp
theorem AP.step (h : AP w W wb bx t te cs v k ls box wc) (ht : t ≠ te) (hw : t ≠ 73) (hte : te ≠ 73) (hm : Mk W' t cs v' (k + j) (k + j)) (hall : ∀ u k j, Mk W t cs u k j → Mk W' t cs u k j) (hb0 : Below 0 W W') (hz : W.heap.size ≤ W'.heap.size) (hold : ∀ b, b < W.heap.size → v.ownBlock ≠ some b → W'.heap[b]? = W.heap[b]?) (hwh : ∀ b, v'.ownBlock = some b → v.ownBlock = some b ∨ W.heap.size ≤ b) (i : Nat) :
    AP w (W'.setCell ⟨bx, i, none⟩ v') wb bx t te cs v k ((v', k + j) :: ls) (box.setIfInBounds i v') wc := by
  have hbx := (hold bx (Array.getElem?_eq_some_iff.1 h.hbx).1 (h.ne ht)).trans h.hbx
  have hvw : v.ownBlock ≠ some wb := fun e => by
    obtain ⟨cur, hc⟩ := h.hv.tag e
    rw [h.hwb] at hc
    cases hc
    exact hw rfl
  have hwb := (hold wb (Array.getElem?_eq_some_iff.1 h.hwb).1 hvw).trans h.hwb
  have hne : bx ≠ wb := fun e => by
    have := h.hbx
    rw [e, h.hwb] at this
    cases this
    exact hte rfl
  have keep : ∀ {u : Value} {n : Nat}, Mk W' t cs u n n → Mk (W'.setCell ⟨bx, i, none⟩ v') t cs u n n := fun {u n} hu => hu.blk fun b e => Below.heap_setCell _ _ _ _ fun e2 => by
    have e2 : b = bx := e2
    obtain ⟨cur, hc⟩ := hu.tag e
    rw [e2, hbx] at hc
    cases hc
    exact ht rfl
  have hkd : KD wb v w W' := ⟨hb0.os.trans h.kd.os, hb0.tape.trans h.kd.tape, hb0.output.trans h.kd.output, Nat.le_trans h.kd.size hz, fun b hb h1 h2 => (hold b (Nat.lt_of_lt_of_le hb h.kd.size) h2).trans (h.kd.block b hb h1 h2)⟩
  have hkd2 : KD wb v w (W'.setCell ⟨bx, i, none⟩ v') := ⟨hkd.os, hkd.tape, hkd.output, by simpa using hkd.size, fun b hb h1 h2 => (Below.heap_setCell _ _ _ _ fun e => by
    have e : b = bx := e
    have := h.lo
    omega).trans (hkd.block b hb h1 h2)⟩
  refine ⟨fun x hx => ?_, keep (hall _ _ _ h.hv), hkd2, (Below.heap_setCell _ _ _ _ (fun e => hne e.symm)).trans hwb, setDesk_at hbx, h.lo⟩
  rcases List.mem_cons.1 hx with rfl | hx
  · refine ⟨keep hm, fun b e => ?_⟩
    rcases hwh b e with h1 | h1
    · exact Or.inl h1
    · exact Or.inr (Nat.le_trans h.kd.size h1)
  · exact ⟨keep (hall _ _ _ (h.lst x hx).1), (h.lst x hx).2⟩
/-- The entry that was made. -/
theorem AP.entry {csf : Int → List Value} {m : Int} {P : Nat → Prop} {va vb vc : Value} (h : AP w W wb bx t te (csf m) v k [(vc, k + 3), (vb, k + 2), (va, k + 1)] box wc) (hk : k ≤ 1000000) : EnOk W t csf (fun b => P b ∨ v.ownBlock = some b ∨ w.heap.size ≤ b) ⟨v, va, vb, vc, m, k⟩ := by
  have h3 := h.lst (vc, k + 3) (by simp)
  have h2 := h.lst (vb, k + 2) (by simp)
  have h1 := h.lst (va, k + 1) (by simp)
  refine ⟨h.hv, h1.1, h2.1, h3.1, fun u hu b e => ?_, hk⟩
  simp only [En.vs, List.mem_cons, List.not_mem_nil, or_false] at hu
  rcases hu with rfl | rfl | rfl | rfl
  · exact Or.inr (Or.inl e)
  · exact Or.inr (h1.2 b e)
  · exact Or.inr (h2.2 b e)
  · exact Or.inr (h3.2 b e)
end
/-- What the book's call leaves, at last. -/
theorem AP.upd {w W' : World} {P : Nat → Prop} {v : Value} {wb : Nat} (hos : W'.os = w.os) (hta : W'.tape = w.tape) (hou : W'.output = w.output) (hz : w.heap.size ≤ W'.heap.size) (hb : ∀ b, b < w.heap.size → b ≠ wb → v.ownBlock ≠ some b → (¬ P b) → W'.heap[b]? = w.heap[b]?) (hw : P wb) :
    Upd (fun b => P b ∨ v.ownBlock = some b) (fun b => (P b ∨ v.ownBlock = some b ∨ w.heap.size ≤ b) ∧ b < W'.heap.size) w W' :=
  ⟨hos, hta, hou, hz, fun k hk hn => hb k hk (fun e => hn (Or.inl (e ▸ hw))) (fun e => hn (Or.inr e)) (fun e => hn (Or.inl e)), fun k hk hp => by
    rcases hp.1 with h | h | h
    · exact Or.inl h
    · exact Or.inr h
    · omega⟩
/-- What the book's call with the list v leaves. -/
def BkUpd (w w' : World) (wb : Nat) (P : Nat → Prop) (v : Value) (N : Nat) (ks ds : List Nat) (xv yv : Value) : Prop := ∃ P', (∃ iv dv rv fv n ei ed er ef, WB w' wb P' N ks ds xv yv iv dv rv fv n ei ed er ef) ∧ (∀ b, P' b → b < w'.heap.size) ∧ Upd (fun b => P b ∨ v.ownBlock = some b) P' w w'
end Go.Proofs.YtaicdjhblbobbaaGreat

/- The book takes a list of numbers. -/
namespace Go.Proofs.YtaicdjhblbobbaaGreat
open Go.RowKit Go.Lib

/-- append of one at a step of a region that draws its order, to a long row. -/
theorem step_snocL {ops : Array Oper} {o : Oper} {a : Act} {K : Act → World → Prop} {Q : Exit → Act → World → Prop} {E : Prop} (hgd : o.guard = none) (s x : Operand) (t : TypeId)
    (ho : o.op = .call { callee := .builtin .append, args := #[s, x], argTypes := #[t, t] }) {e : TypeId} {z : Value} {sz by' : Nat} (hu : Tryz.prog.underlying t = some (.slice e))
    (hinf : (Tryz.prog.info? e).map (fun i => (i.zero, i.size, i.bytes)) = some (some z, sz, by')) (hzs : z.cells.size = sz) (h0 : 0 < sz) (hby : by' ≤ 1000)
    {base : Nat} {w : World} {v : Value} {n : Nat} {xs : List Value} (hs : a.eval s = v) (hown : w.ownsRow base e sz v n xs) (hb : base ≤ w.heap.size) (hn : n ≤ 100000000000)
    {cs : Array Value} {bb : Nat} (hx : a.eval x = .slice (some ⟨bb, 0, none⟩) 1 1) (hlit : w.heap[bb]? = some (.cells cs e (0, 0))) (hcs : cs.size = sz) (h1 : ∀ u ∈ cs.toList, u.oneCell' = true)
    (h : ∀ v' w', w'.ownsRow base e sz v' (n + 1) (xs ++ cs.toList) → Below base w w' → w.heap.size ≤ w'.heap.size → (∀ b, b < w.heap.size → v.ownBlock ≠ some b → w'.heap[b]? = w.heap[b]?) → (∀ b, v'.ownBlock = some b → v.ownBlock = some b ∨ w.heap.size ≤ b) → K (a.put o.dst v') w') :
    if Region.wanted o (yielded ops a.tmps) = true then Oper.wp Tryz.prog o a w K Q else E := by
  have hw : Region.wanted o (yielded ops a.tmps) = true := by simp [Region.wanted, hgd]
  rw [if_pos hw]
  obtain ⟨i0, hi0, hz0, hz1, hz2⟩ := info_get hinf
  have hcell : ∀ j u, cs.toList[j]? = some u → w.cell? ((⟨bb, 0, none⟩ : Addr).add j) = some u := fun j u hj => by
    have e1 : (⟨bb, 0, none⟩ : Addr).add j = ⟨bb, j, none⟩ := by unfold Addr.add; split <;> simp_all
    rw [e1]
    simp only [World.cell?, hlit]
    simpa using hj
  have hbyt : (n + 1) * by' ≤ 140737488355328 := by
    have : (n + 1) * by' ≤ 100000000001 * 1000 := Nat.mul_le_mul (by omega) hby
    omega
  obtain ⟨v', w', hr, h2, hgr, hwh⟩ := append_run (P := Tryz.prog) w base t o.type e i0 z sz by' hu hi0 hz0 hz1 hz2 hzs h0 v n xs hown ⟨bb, 0, none⟩ 1 1 cs.toList (by simp [hcs]) hcell h1 (by unfold maxLen; omega) hbyt hb
  exact Lib.wp_append_run _ s x t t ho v _ hs hx v' w' hr (h v' w' h2 ((Below.refl base w).grown hgr hb (fun k hk => (hown.lt k hk).1)) hgr.size (fun b hb' hne => hgr.block b hb' (fun e' => hne e'.symm)) hwh)
theorem marksI1 (m : Int) : (#[.int .i64 m] : Array Value).toList = marks (csI m) 1 := rfl
theorem marksI2 (m : Int) : (#[.int .i64 m, .int .i64 m] : Array Value).toList = marks (csI m) 2 := by
  have h : List.range (2 * (csI m).length) = [0, 1] := rfl
  unfold marks
  rw [h]
  simp [csI, Nat.mod_one]
theorem marksI3 (m : Int) : (#[.int .i64 m, .int .i64 m, .int .i64 m] : Array Value).toList = marks (csI m) 3 := by
  have h : List.range (3 * (csI m).length) = [0, 1, 2] := rfl
  unfold marks
  rw [h]
  simp [csI, Nat.mod_one]
theorem Tryz.infoIntsB : (Tryz.prog.info? 115).map (fun i => (i.zero, i.size, i.bytes)) = some (some (.agg #[.slice none 0 0, .slice none 0 0, .slice none 0 0, .slice none 0 0, .int .i64 0]), 5, 104) := by kernel_rfl
theorem mk_setI {w : World} {t : TypeId} {m : Int} {k i : Nat} {g cap : Nat} (h : Mk w t (csI m) (.slice (some ⟨g, 0, none⟩) k cap) k i) (hi : i < k) : Mk (w.setCell ⟨g, i, none⟩ (.int .i64 m)) t (csI m) (.slice (some ⟨g, 0, none⟩) k cap) k (i + 1) := by
  rcases h with ⟨e, _⟩ | ⟨g2, cap2, cur, e, h3, h4, h5, h6, h7⟩
  · cases e
  · cases e
    have hs : cur.size = cap := by rw [h6]; simp [csI]
    refine Or.inr ⟨g, cap, _, rfl, setDesk_at h3, h4, h5, by simpa using h6, fun j hj => ?_⟩
    have hl : (csI m).length = 1 := rfl
    rw [hl, Nat.mul_one] at hj
    by_cases e : j = i
    · subst e
      rw [set_self (by omega)]
      simp [csI, Nat.mod_one]
    · rw [set_other (fun h => e h.symm)]
      exact h7 j (by rw [hl]; omega)
set_option maxHeartbeats 16000000 in
set_option maxRecDepth 100000 in
theorem bInts {w : World} {wb : Nat} {P : Nat → Prop} {N : Nat} {ks ds : List Nat} {xv yv iv dv rv fv : Value} {n : Int} {ei ed er ef : List En} (h : WB w wb P N ks ds xv yv iv dv rv fv n ei ed er ef) (hN : N ≤ 1000000000) {base k : Nat} {v : Value} {xs : List Value} (hv : w.ownsRow base 3 1 v k xs) (hk : k ≤ 1000000) (hfar : ∀ b, v.ownBlock = some b → ¬ P b) :
    Calls Tryz.prog 95 #[.pointer (some ⟨wb, 2, none⟩), v] w fun r w' => r = .returned (.tuple #[]) ∧ BkUpd w w' wb P v (N + 2) ks ds xv yv := by
  have HW := Hid.mk h
  have c2 : w.cell? ⟨wb, 2, none⟩ = some (.int .i64 n) := h.cell 2
  have f2 := h.frozen 2
  have hwb := h.lt
  have hn := h.n0
  have hn1 : 0 ≤ n := hn.1
  have hn2 : n ≤ 1000000000 := by have := hn.2; omega
  have HFAR := Hid.mk hfar
  have HMK : Hid (Mk (w.setCell ⟨wb, 2, none⟩ (.int .i64 (n + 1))) 3 (csI (1000 + (n + 1))) v k 0) := (Mk.of_own (cs := csI (1000 + (n + 1))) hv).blk fun b e => Below.heap_setCell _ _ _ _ fun e2 => hfar b e (by rw [show b = wb from e2]; exact h.pw)
  obtain ⟨va, vc, rfl⟩ := own_form hv
  have HKD0 : Hid (KD wb (.slice va k vc) w (w.setCell ⟨wb, 2, none⟩ (.int .i64 (n + 1)))) := (KD.refl _ _ _).cell (a := ⟨wb, 2, none⟩) (Or.inl rfl) _
  have HBK0 : Hid ((w.setCell ⟨wb, 2, none⟩ (.int .i64 (n + 1))).heap[wb]? = some (.cells #[xv, yv, .int .i64 (n + 1), iv, dv, rv, fv] 73 (0, 0))) := setWB h.blk
  clear h hv hfar hn
  go_enter Tryz.func95, Tryz.ntmps95
  go_wp2
  generalize hm : 1000 + (n + 1) = m at *
  have HM := Hid.mk hm
  clear hm
  obtain ⟨w0, hw0⟩ : ∃ w0, w0 = w.setCell ⟨wb, 2, none⟩ (.int .i64 (n + 1)) := ⟨_, rfl⟩
  rw [← hw0] at HMK HKD0 HBK0 ⊢
  clear hw0 c2 f2
  go_loopw [5] (fun s5 wr => ∃ i : Nat, s5 = .int .i64 i ∧ i ≤ k ∧ Hid (Mk wr 3 (csI m) (.slice va k vc) k i) ∧ Hid (KD wb (.slice va k vc) w wr) ∧ Hid (wr.heap[wb]? = some (.cells #[xv, yv, .int .i64 (n + 1), iv, dv, rv, fv] 73 (0, 0)))) (fun s5 _ => k - (intOf s5).toNat)
  case atStart => exact ⟨0, rfl, Nat.zero_le _, HMK.out, HKD0.out, HBK0.out⟩
  case round =>
    clear HMK HKD0 HBK0
    obtain ⟨i, rfl, hi, HMK, HKD, HBK⟩ := hrel
    by_cases hik : i < k
    · have hik' : (i : Int) < (k : Int) := by omega
      obtain ⟨g, cap, he, hg, hkc, _, hsome, hfr⟩ := HMK.out.elem (by omega)
      cases he
      obtain ⟨u, hu⟩ := Option.isSome_iff_exists.1 (hsome i (by simp [csI]; exact hik))
      have hf := hfr i
      have hgw : g ≠ wb := fun e => HFAR.out g rfl (by rw [e]; exact HW.out.pw)
      clear hsome hfr
      go_wp2
      go_roundw
      case rel => exact ⟨i + 1, by go_num, by omega, mk_setI HMK.out hik, HKD.out.cell (a := ⟨g, i, none⟩) (Or.inr rfl) _, (Below.heap_setCell _ _ _ _ (fun e => hgw e.symm)).trans HBK.out⟩
      case measure => simp [intOf]; omega
    · obtain rfl : i = k := by omega
      have HAP0 := Hid.mk (AP.start (te := 115) HMK.out HKD.out HBK.out #[.slice va i vc, .slice none 0 0, .slice none 0 0, .slice none 0 0, .int .i64 m])
      go_wp2_with (first
        | (at_builtin; refine wpList_marks rfl _ _ _ rfl Tryz.underlying25 Tryz.infoInt rfl (by decide) (by decide) (cs := csI m) rfl (by simp [csI, Value.oneCell']) rfl HAP0.out.hv (by omega) (m := 1) (by omega) (X := #[.int .i64 m]) rfl (by simp) (marksI1 m) ?_; intro v1 w1 hm1 hall1 hb1 hz1 hold1 hwh1; obtain ⟨a1, c1, rfl⟩ := hm1.form; obtain ⟨bc1, bf1⟩ := HAP0.out.cell (by decide) hold1 1; have HAP1 := Hid.mk (HAP0.out.step (by decide) (by decide) (by decide) hm1 hall1 hb1 hz1 hold1 hwh1 1); clear hm1 hall1 hb1 hold1 hwh1)
        | (at_builtin; refine wpList_marks rfl _ _ _ rfl Tryz.underlying25 Tryz.infoInt rfl (by decide) (by decide) (cs := csI m) rfl (by simp [csI, Value.oneCell']) rfl HAP1.out.hv (by omega) (m := 2) (by omega) (X := #[.int .i64 m, .int .i64 m]) rfl (by simp) (marksI2 m) ?_; intro v2 w2 hm2 hall2 hb2 hz2 hold2 hwh2; obtain ⟨a2, c2, rfl⟩ := hm2.form; obtain ⟨bc2, bf2⟩ := HAP1.out.cell (by decide) hold2 2; have HAP2 := Hid.mk (HAP1.out.step (by decide) (by decide) (by decide) hm2 hall2 hb2 hz2 hold2 hwh2 2); clear hm2 hall2 hb2 hold2 hwh2)
        | (at_builtin; refine wpList_marks rfl _ _ _ rfl Tryz.underlying25 Tryz.infoInt rfl (by decide) (by decide) (cs := csI m) rfl (by simp [csI, Value.oneCell']) rfl HAP2.out.hv (by omega) (m := 3) (by omega) (X := #[.int .i64 m, .int .i64 m, .int .i64 m]) rfl (by simp) (marksI3 m) ?_; intro v3 w3 hm3 hall3 hb3 hz3 hold3 hwh3; obtain ⟨a3, c3, rfl⟩ := hm3.form; obtain ⟨bc3, bf3⟩ := HAP2.out.cell (by decide) hold3 3; have HAP3 := Hid.mk (HAP2.out.step (by decide) (by decide) (by decide) hm3 hall3 hb3 hz3 hold3 hwh3 3); clear hm3 hall3 hb3 hold3 hwh3))
      have hli : ei.length ≤ 1000000000 := by have := HW.out.li; omega
      obtain ⟨ia, ic, hie⟩ := own_form HW.out.i.own
      subst hie
      have HWN : Hid (0 ≤ n + 1 ∧ n + 1 ≤ ((N + 1 : Nat) : Int)) := by have := HW.out.n0; exact ⟨by omega, by omega⟩
      have hap3 := HAP3.out
      have hw3 := HW.out.turn (N' := N + 1) (P' := fun b => P b ∨ Value.ownBlock (.slice va i vc) = some b ∨ w.heap.size ≤ b) hap3.kd HFAR.out (fun b hb => Or.inl hb) hap3.hwb HWN.out (by omega)
      have hen := hap3.entry (csf := csI) (P := P) hk
      have hbx : (w3.setCell ⟨wr.heap.size, 3, none⟩ (.slice a3 (i + 3) c3)).heap[wr.heap.size]? = some (.cells #[.slice va i vc, .slice a1 (i + 1) c1, .slice a2 (i + 2) c2, .slice a3 (i + 3) c3, .int .i64 m] 115 (0, 0)) := hap3.hbx
      have HKD3 := Hid.mk hap3.kd
      have hbl : wr.heap.size < ((w3.setCell ⟨wr.heap.size, 3, none⟩ (.slice a3 (i + 3) c3))).heap.size := (Array.getElem?_eq_some_iff.1 hbx).1
      clear hap3 HAP0 HAP1 HAP2 HAP3
      generalize w3.setCell ⟨wr.heap.size, 3, none⟩ (.slice a3 (i + 3) c3) = W3 at *
      have y0 : W3.cell? ⟨wr.heap.size, 0, none⟩ = some (.slice va i vc) := by simp only [World.cell?, hbx]; rfl
      have y1 : W3.cell? ⟨wr.heap.size, 1, none⟩ = some (.slice a1 (i + 1) c1) := by simp only [World.cell?, hbx]; rfl
      have y2 : W3.cell? ⟨wr.heap.size, 2, none⟩ = some (.slice a2 (i + 2) c2) := by simp only [World.cell?, hbx]; rfl
      have y3 : W3.cell? ⟨wr.heap.size, 3, none⟩ = some (.slice a3 (i + 3) c3) := by simp only [World.cell?, hbx]; rfl
      have y4 : W3.cell? ⟨wr.heap.size, 4, none⟩ = some (.int .i64 m) := by simp only [World.cell?, hbx]; rfl
      have yw : W3.cell? ⟨wb, 3, none⟩ = some (.slice ia ei.length ic) := hw3.cell 3
      have hwl := hw3.lt
      have HBX := Hid.mk hbx
      have HW3 := Hid.mk hw3
      have HEN := Hid.mk hen
      clear hbx hw3 hen
      have HWD : Hid (WB (W3.alloc (.cells #[.slice va i vc, .slice a1 (i + 1) c1, .slice a2 (i + 2) c2, .slice a3 (i + 3) c3, .int .i64 m] 115)).drew wb (fun b => P b ∨ Value.ownBlock (.slice va i vc) = some b ∨ w.heap.size ≤ b) (N + 1) ks ds xv yv (.slice ia ei.length ic) dv rv fv (n + 1) ei ed er ef) := HW3.out.frame fun b hp hb => ⟨Below.heap_alloc _ _ _ hb, hp⟩
      have HLIT : Hid ((W3.alloc (.cells #[.slice va i vc, .slice a1 (i + 1) c1, .slice a2 (i + 2) c2, .slice a3 (i + 3) c3, .int .i64 m] 115)).drew.heap[W3.heap.size]? = some (.cells #[.slice va i vc, .slice a1 (i + 1) c1, .slice a2 (i + 2) c2, .slice a3 (i + 3) c3, .int .i64 m] 115 (0, 0))) := heap_alloc_new W3 _
      have HFIN : Hid (∀ (w5 : World) (v5 : Value), w5.ownsRow 0 115 5 v5 (ei.length + 1) (flatE ei ++ (#[.slice va i vc, .slice a1 (i + 1) c1, .slice a2 (i + 2) c2, .slice a3 (i + 3) c3, .int .i64 m] : Array Value).toList) → Below 0 (W3.alloc (.cells #[.slice va i vc, .slice a1 (i + 1) c1, .slice a2 (i + 2) c2, .slice a3 (i + 3) c3, .int .i64 m] 115)).drew w5 → (W3.alloc (.cells #[.slice va i vc, .slice a1 (i + 1) c1, .slice a2 (i + 2) c2, .slice a3 (i + 3) c3, .int .i64 m] 115)).drew.heap.size ≤ w5.heap.size →
          (∀ b, b < (W3.alloc (.cells #[.slice va i vc, .slice a1 (i + 1) c1, .slice a2 (i + 2) c2, .slice a3 (i + 3) c3, .int .i64 m] 115)).drew.heap.size → Value.ownBlock (.slice ia ei.length ic) ≠ some b → w5.heap[b]? = (W3.alloc (.cells #[.slice va i vc, .slice a1 (i + 1) c1, .slice a2 (i + 2) c2, .slice a3 (i + 3) c3, .int .i64 m] 115)).drew.heap[b]?) → (∀ b, v5.ownBlock = some b → Value.ownBlock (.slice ia ei.length ic) = some b ∨ (W3.alloc (.cells #[.slice va i vc, .slice a1 (i + 1) c1, .slice a2 (i + 2) c2, .slice a3 (i + 3) c3, .int .i64 m] 115)).drew.heap.size ≤ b) →
          BkUpd w (w5.setCell ⟨wb, 3, none⟩ v5) wb P (.slice va i vc) (N + 2) ks ds xv yv) := fun w5 v5 ho hb hz hold hwh => by
        have hzd : W3.heap.size ≤ (W3.alloc (.cells #[.slice va i vc, .slice a1 (i + 1) c1, .slice a2 (i + 2) c2, .slice a3 (i + 3) c3, .int .i64 m] 115)).drew.heap.size := by
          show W3.heap.size ≤ (W3.alloc _).heap.size
          simp
        have hz3 := HKD3.out.size
        have henD : EnOk (W3.alloc (.cells #[.slice va i vc, .slice a1 (i + 1) c1, .slice a2 (i + 2) c2, .slice a3 (i + 3) c3, .int .i64 m] 115)).drew 3 csI (fun b => P b ∨ Value.ownBlock (.slice va i vc) = some b ∨ w.heap.size ≤ b) ⟨.slice va i vc, .slice a1 (i + 1) c1, .slice a2 (i + 2) c2, .slice a3 (i + 3) c3, m, i⟩ := HEN.out.frame fun u hu b e => by
          obtain ⟨cu, hc⟩ := HEN.out.tag hu e
          exact ⟨Below.heap_alloc _ _ _ (Array.getElem?_eq_some_iff.1 hc).1, HEN.out.p u hu b e⟩
        have hwb := HWD.out.addI (N' := N + 2) (by omega) henD ho hold (fun b e => by
          rcases hwh b e with h1 | h1
          · exact HWD.out.i.pb b h1
          · exact Or.inr (Or.inr (by omega)))
        refine ⟨fun b => (P b ∨ Value.ownBlock (.slice va i vc) = some b ∨ w.heap.size ≤ b) ∧ b < (w5.setCell ⟨wb, 3, none⟩ v5).heap.size, ⟨_, _, _, _, _, _, _, _, _, hwb.frame (fun b hp hb => ⟨rfl, hp, hb⟩)⟩, fun b hp => hp.2, AP.upd (wb := wb) (hb.os.trans HKD3.out.os) (hb.tape.trans HKD3.out.tape) (hb.output.trans HKD3.out.output) (by simp; omega) (fun b hb1 h1 h2 h3 => ?_) HW.out.pw⟩
        refine (Below.heap_setCell _ _ _ _ h1).trans ((hold b (by omega) (fun e => h3 (HW.out.i.pb b e))).trans ?_)
        exact (Below.heap_alloc _ _ _ (by omega)).trans (HKD3.out.block b hb1 h1 h2)
      go_region_law (refine step_snocL rfl _ _ _ rfl Tryz.underlying66 Tryz.infoIntsB rfl (by decide) (by decide) (v := .slice ia ei.length ic) (by simp [Act.eval]) HWD.out.i.own (Nat.zero_le _) (by omega) (cs := #[.slice va i vc, .slice a1 (i + 1) c1, .slice a2 (i + 2) c2, .slice a3 (i + 3) c3, .int .i64 m]) (bb := W3.heap.size) (by simp [Act.eval]) HLIT.out rfl (by simp [Value.oneCell']) ?_; intro v5 w5 ho5 hb5 hz5 hold5 hwh5; obtain ⟨a5, c5, rfl⟩ := own_form ho5; have hwb5 := hold5 wb (by simp; omega) (fun e => by obtain ⟨cu, hc⟩ := own_type HWD.out.i.own e; rw [HWD.out.blk] at hc; cases hc); have b5 : w5.cell? ⟨wb, 3, none⟩ = some (.slice ia ei.length ic) := ((World.cell?_of_block (a := ⟨wb, 3, none⟩) hwb5).trans (HWD.out.cell 3)); have f5 : w5.frozen? ⟨wb, 3, none⟩ = false := ((World.frozen?_of_block (a := ⟨wb, 3, none⟩) hwb5).trans (HWD.out.frozen 3)); have HO5 := Hid.mk ho5; have HB5 := Hid.mk hb5; have HL5 := Hid.mk hold5; have HH5 := Hid.mk hwh5; clear ho5 hb5 hold5 hwh5 hwb5)
      all_goals (go_wp2; go_end0; exact ⟨rfl, HFIN.out w5 _ HO5.out HB5.out hz5 HL5.out HH5.out⟩)
end Go.Proofs.YtaicdjhblbobbaaGreat

/- Marks of several cells, written one by one. -/
namespace Go.Proofs.YtaicdjhblbobbaaGreat
open Go.RowKit Go.Lib

theorem mk_setN {w : World} {t : TypeId} {cs : List Value} {k i : Nat} {g cap : Nat} (h : Mk w t cs (.slice (some ⟨g, 0, none⟩) k cap) k i) (hi : i < k) (_hc : 0 < cs.length) : Mk (w.setCells g (i * cs.length) cs) t cs (.slice (some ⟨g, 0, none⟩) k cap) k (i + 1) := by
  rcases h with ⟨e, _⟩ | ⟨g2, cap2, cur, e, h3, h4, h5, h6, h7⟩
  · cases e
  · cases e
    have e1 : (i + 1) * cs.length = i * cs.length + cs.length := by rw [Nat.add_mul, Nat.one_mul]
    have e2 : (i + 1) * cs.length ≤ cap * cs.length := Nat.mul_le_mul_right _ (by omega)
    obtain ⟨X, x1, x2, x3⟩ := setCells_at cs (i * cs.length) w cur h3 (by omega)
    refine Or.inr ⟨g, cap, X, rfl, x1, h4, h5, x2.trans h6, fun j hj => ?_⟩
    rw [x3]
    by_cases hji : i * cs.length ≤ j
    · rw [if_pos ⟨hji, by omega⟩]
      have e3 : j % cs.length = j - i * cs.length := by
        conv => lhs; rw [show j = (j - i * cs.length) + i * cs.length by omega]
        rw [Nat.add_mul_mod_self_right, Nat.mod_eq_of_lt (by omega)]
      rw [e3]
    · rw [if_neg (fun h => hji h.1)]
      exact h7 j (by omega)
end Go.Proofs.YtaicdjhblbobbaaGreat

/- The book takes a list of Dones. -/
namespace Go.Proofs.YtaicdjhblbobbaaGreat
open Go.RowKit Go.Lib

theorem marksD1 (m : Int) : (#[.int .i64 m, .int .i64 0] : Array Value).toList = marks (csD m) 1 := by
  have h : List.range (1 * (csD m).length) = [0, 1] := rfl
  unfold marks
  rw [h]
  simp [csD]
theorem marksD2 (m : Int) : (#[.int .i64 m, .int .i64 0, .int .i64 m, .int .i64 0] : Array Value).toList = marks (csD m) 2 := by
  have h : List.range (2 * (csD m).length) = [0, 1, 2, 3] := rfl
  unfold marks
  rw [h]
  simp [csD]
theorem marksD3 (m : Int) : (#[.int .i64 m, .int .i64 0, .int .i64 m, .int .i64 0, .int .i64 m, .int .i64 0] : Array Value).toList = marks (csD m) 3 := by
  have h : List.range (3 * (csD m).length) = [0, 1, 2, 3, 4, 5] := rfl
  unfold marks
  rw [h]
  simp [csD]
theorem Tryz.infoDB : (Tryz.prog.info? 118).map (fun i => (i.zero, i.size, i.bytes)) = some (some (.agg #[.slice none 0 0, .slice none 0 0, .slice none 0 0, .slice none 0 0, .int .i64 0]), 5, 104) := by kernel_rfl
set_option maxHeartbeats 16000000 in
set_option maxRecDepth 100000 in
theorem bD {w : World} {wb : Nat} {P : Nat → Prop} {N : Nat} {ks ds : List Nat} {xv yv iv dv rv fv : Value} {n : Int} {ei ed er ef : List En} (h : WB w wb P N ks ds xv yv iv dv rv fv n ei ed er ef) (hN : N ≤ 1000000000) {base k : Nat} {v : Value} {xs : List Value} (hv : w.ownsRow base 57 2 v k xs) (hk : k ≤ 1000000) (hfar : ∀ b, v.ownBlock = some b → ¬ P b) :
    Calls Tryz.prog 143 #[.pointer (some ⟨wb, 2, none⟩), v] w fun r w' => r = .returned (.tuple #[]) ∧ BkUpd w w' wb P v (N + 2) ks ds xv yv := by
  have HW := Hid.mk h
  have c2 : w.cell? ⟨wb, 2, none⟩ = some (.int .i64 n) := h.cell 2
  have f2 := h.frozen 2
  have hwb := h.lt
  have hn := h.n0
  have hn1 : 0 ≤ n := hn.1
  have hn2 : n ≤ 1000000000 := by have := hn.2; omega
  have HFAR := Hid.mk hfar
  have HNV : Hid (v.ownBlock ≠ some w.heap.size) := fun e => by have := (hv.lt _ e).2; omega
  obtain ⟨m, hm⟩ : ∃ m, m = 1000 + (n + 1) := ⟨_, rfl⟩
  have HMK : Hid (Mk ((w.setCell ⟨wb, 2, none⟩ (.int .i64 (n + 1))).alloc (.cells #[.int .i64 m, .int .i64 0] 57)) 57 (csD m) v k 0) := ((Mk.of_own (cs := csD m) hv).blk fun b e => Below.heap_setCell _ _ _ _ fun e2 => hfar b e (by rw [show b = wb from e2]; exact h.pw)).alloc _
  obtain ⟨va, vc, rfl⟩ := own_form hv
  have HKD0 : Hid (KD wb (.slice va k vc) w ((w.setCell ⟨wb, 2, none⟩ (.int .i64 (n + 1))).alloc (.cells #[.int .i64 m, .int .i64 0] 57))) := ((KD.refl _ _ _).cell (a := ⟨wb, 2, none⟩) (Or.inl rfl) _).alloc _
  have HBK0 : Hid (((w.setCell ⟨wb, 2, none⟩ (.int .i64 (n + 1))).alloc (.cells #[.int .i64 m, .int .i64 0] 57)).heap[wb]? = some (.cells #[xv, yv, .int .i64 (n + 1), iv, dv, rv, fv] 73 (0, 0))) := (Below.heap_alloc _ _ _ (by simpa using h.lt)).trans (setWB h.blk)
  have HMB0 : Hid (((w.setCell ⟨wb, 2, none⟩ (.int .i64 (n + 1))).alloc (.cells #[.int .i64 m, .int .i64 0] 57)).heap[w.heap.size]? = some (.cells #[.int .i64 m, .int .i64 0] 57 (0, 0))) := by
    have hh := heap_alloc_new (w.setCell ⟨wb, 2, none⟩ (.int .i64 (n + 1))) (.cells #[.int .i64 m, .int .i64 0] 57)
    simp only [World.size_setCell] at hh
    exact hh
  clear h hv hfar hn
  go_enter Tryz.func143, Tryz.ntmps143
  go_wp2
  rw [← hm]
  obtain ⟨w0, hw0⟩ : ∃ w0, w0 = (w.setCell ⟨wb, 2, none⟩ (.int .i64 (n + 1))).alloc (.cells #[.int .i64 m, .int .i64 0] 57) := ⟨_, rfl⟩
  rw [← hw0] at HMK HKD0 HBK0 HMB0 ⊢
  have HM := Hid.mk hm
  clear hw0 c2 f2 hm
  go_loopw [5] (fun s5 wr => ∃ i : Nat, s5 = .int .i64 i ∧ i ≤ k ∧ Hid (Mk wr 57 (csD m) (.slice va k vc) k i) ∧ Hid (KD wb (.slice va k vc) w wr) ∧ Hid (wr.heap[wb]? = some (.cells #[xv, yv, .int .i64 (n + 1), iv, dv, rv, fv] 73 (0, 0))) ∧ Hid (wr.heap[w.heap.size]? = some (.cells #[.int .i64 m, .int .i64 0] 57 (0, 0)))) (fun s5 _ => k - (intOf s5).toNat)
  case atStart => exact ⟨0, rfl, Nat.zero_le _, HMK.out, HKD0.out, HBK0.out, HMB0.out⟩
  case round =>
    clear HMK HKD0 HBK0 HMB0
    obtain ⟨i, rfl, hi, HMK, HKD, HBK, HMB⟩ := hrel
    have hmb := HMB.out
    have hwl : w.heap.size < wr.heap.size := (Array.getElem?_eq_some_iff.1 hmb).1
    have q0 : wr.cell? ⟨w.heap.size, 0, none⟩ = some (.int .i64 m) := by simp only [World.cell?, hmb]; rfl
    have q1 : wr.cell? ⟨w.heap.size, 1, none⟩ = some (.int .i64 0) := by simp only [World.cell?, hmb]; rfl
    clear hmb
    by_cases hik : i < k
    · have hik' : (i : Int) < (k : Int) := by omega
      obtain ⟨g, cap, he, hg, hkc, _, hsome, hfr⟩ := HMK.out.elem (by omega)
      cases he
      have hl : (csD m).length = 2 := rfl
      obtain ⟨u0, hu0⟩ := Option.isSome_iff_exists.1 (hsome (i * 2) (by rw [hl]; omega))
      have hf0 := hfr (i * 2)
      obtain ⟨u1, hu1⟩ := Option.isSome_iff_exists.1 (hsome (i * 2 + 1) (by rw [hl]; omega))
      have hf1 := hfr (i * 2 + 1)
      have hgw : g ≠ wb := fun e => HFAR.out g rfl (by rw [e]; exact HW.out.pw)
      have hgs : g ≠ w.heap.size := fun e => HNV.out (by rw [← e]; rfl)
      have HSET : Hid (Mk ((wr.setCell ⟨g, i * 2, none⟩ (.int .i64 m)).setCell ⟨g, i * 2 + 1, none⟩ (.int .i64 0)) 57 (csD m) (.slice (some ⟨g, 0, none⟩) k vc) k (i + 1)) := mk_setN HMK.out hik (by show 0 < 2; decide)
      clear hsome hfr hl
      go_wp2
      go_roundw
      case rel => exact ⟨i + 1, by go_num, by omega, HSET.out, ((HKD.out.cell (a := ⟨g, i * 2, none⟩) (Or.inr rfl) _).cell (a := ⟨g, i * 2 + 1, none⟩) (Or.inr rfl) _), (Below.heap_setCell _ _ _ _ (fun e => hgw e.symm)).trans ((Below.heap_setCell _ _ _ _ (fun e => hgw e.symm)).trans (HBK.out)), (Below.heap_setCell _ _ _ _ (fun e => hgs e.symm)).trans ((Below.heap_setCell _ _ _ _ (fun e => hgs e.symm)).trans (HMB.out))⟩
      case measure => simp [intOf]; omega
    · obtain rfl : i = k := by omega
      have HAP0 := Hid.mk (AP.start (te := 118) HMK.out HKD.out HBK.out #[.slice va i vc, .slice none 0 0, .slice none 0 0, .slice none 0 0, .int .i64 m])
      have HMB0 : Hid ((wr.alloc (.cells #[.slice va i vc, .slice none 0 0, .slice none 0 0, .slice none 0 0, .int .i64 m] 118)).heap[w.heap.size]? = some (.cells #[.int .i64 m, .int .i64 0] 57 (0, 0))) := (Below.heap_alloc _ _ _ hwl).trans HMB.out
      go_wp2_with (first
        | (at_builtin; refine wpList_marks rfl _ _ _ rfl Tryz.underlying32 Tryz.infoDone rfl (by decide) (by decide) (cs := csD m) rfl (by simp [csD, Value.oneCell']) rfl HAP0.out.hv (by omega) (m := 1) (by omega) (X := #[.int .i64 m, .int .i64 0]) rfl (by simp) (marksD1 m) ?_; intro v1 w1 hm1 hall1 hb1 hz1 hold1 hwh1; obtain ⟨a1, c1, rfl⟩ := hm1.form; obtain ⟨bc1, bf1⟩ := HAP0.out.cell (by decide) hold1 1; have hmb1 := (hold1 w.heap.size (Array.getElem?_eq_some_iff.1 HMB0.out).1 HNV.out).trans HMB0.out; have q10 : w1.cell? ⟨w.heap.size, 0, none⟩ = some (.int .i64 m) := (by simp only [World.cell?, hmb1]; rfl); have q11 : w1.cell? ⟨w.heap.size, 1, none⟩ = some (.int .i64 0) := (by simp only [World.cell?, hmb1]; rfl); have HMB1 : Hid ((w1.setCell ⟨wr.heap.size, 1, none⟩ (.slice a1 (i + 1) c1)).heap[w.heap.size]? = some (.cells #[.int .i64 m, .int .i64 0] 57 (0, 0))) := (Below.heap_setCell _ _ _ _ (Nat.ne_of_lt hwl)).trans hmb1; have HAP1 := Hid.mk (HAP0.out.step (by decide) (by decide) (by decide) hm1 hall1 hb1 hz1 hold1 hwh1 1); clear hm1 hall1 hb1 hold1 hwh1 hmb1)
        | (at_builtin; refine wpList_marks rfl _ _ _ rfl Tryz.underlying32 Tryz.infoDone rfl (by decide) (by decide) (cs := csD m) rfl (by simp [csD, Value.oneCell']) rfl HAP1.out.hv (by omega) (m := 2) (by omega) (X := #[.int .i64 m, .int .i64 0, .int .i64 m, .int .i64 0]) rfl (by simp) (marksD2 m) ?_; intro v2 w2 hm2 hall2 hb2 hz2 hold2 hwh2; obtain ⟨a2, c2, rfl⟩ := hm2.form; obtain ⟨bc2, bf2⟩ := HAP1.out.cell (by decide) hold2 2; have hmb2 := (hold2 w.heap.size (Array.getElem?_eq_some_iff.1 HMB1.out).1 HNV.out).trans HMB1.out; have q20 : w2.cell? ⟨w.heap.size, 0, none⟩ = some (.int .i64 m) := (by simp only [World.cell?, hmb2]; rfl); have q21 : w2.cell? ⟨w.heap.size, 1, none⟩ = some (.int .i64 0) := (by simp only [World.cell?, hmb2]; rfl); have HMB2 : Hid ((w2.setCell ⟨wr.heap.size, 2, none⟩ (.slice a2 (i + 2) c2)).heap[w.heap.size]? = some (.cells #[.int .i64 m, .int .i64 0] 57 (0, 0))) := (Below.heap_setCell _ _ _ _ (Nat.ne_of_lt hwl)).trans hmb2; have HAP2 := Hid.mk (HAP1.out.step (by decide) (by decide) (by decide) hm2 hall2 hb2 hz2 hold2 hwh2 2); clear hm2 hall2 hb2 hold2 hwh2 hmb2)
        | (at_builtin; refine wpList_marks rfl _ _ _ rfl Tryz.underlying32 Tryz.infoDone rfl (by decide) (by decide) (cs := csD m) rfl (by simp [csD, Value.oneCell']) rfl HAP2.out.hv (by omega) (m := 3) (by omega) (X := #[.int .i64 m, .int .i64 0, .int .i64 m, .int .i64 0, .int .i64 m, .int .i64 0]) rfl (by simp) (marksD3 m) ?_; intro v3 w3 hm3 hall3 hb3 hz3 hold3 hwh3; obtain ⟨a3, c3, rfl⟩ := hm3.form; obtain ⟨bc3, bf3⟩ := HAP2.out.cell (by decide) hold3 3; have hmb3 := (hold3 w.heap.size (Array.getElem?_eq_some_iff.1 HMB2.out).1 HNV.out).trans HMB2.out; have q30 : w3.cell? ⟨w.heap.size, 0, none⟩ = some (.int .i64 m) := (by simp only [World.cell?, hmb3]; rfl); have q31 : w3.cell? ⟨w.heap.size, 1, none⟩ = some (.int .i64 0) := (by simp only [World.cell?, hmb3]; rfl); have HMB3 : Hid ((w3.setCell ⟨wr.heap.size, 3, none⟩ (.slice a3 (i + 3) c3)).heap[w.heap.size]? = some (.cells #[.int .i64 m, .int .i64 0] 57 (0, 0))) := (Below.heap_setCell _ _ _ _ (Nat.ne_of_lt hwl)).trans hmb3; have HAP3 := Hid.mk (HAP2.out.step (by decide) (by decide) (by decide) hm3 hall3 hb3 hz3 hold3 hwh3 3); clear hm3 hall3 hb3 hold3 hwh3 hmb3))
      have hli : ed.length ≤ 1000000000 := by have := HW.out.ld; omega
      obtain ⟨ia, ic, hie⟩ := own_form HW.out.d.own
      subst hie
      have HWN : Hid (0 ≤ n + 1 ∧ n + 1 ≤ ((N + 1 : Nat) : Int)) := by have := HW.out.n0; exact ⟨by omega, by omega⟩
      have hap3 := HAP3.out
      have hw3 := HW.out.turn (N' := N + 1) (P' := fun b => P b ∨ Value.ownBlock (.slice va i vc) = some b ∨ w.heap.size ≤ b) hap3.kd HFAR.out (fun b hb => Or.inl hb) hap3.hwb HWN.out (by omega)
      have hen := hap3.entry (csf := csD) (P := P) hk
      have hbx : (w3.setCell ⟨wr.heap.size, 3, none⟩ (.slice a3 (i + 3) c3)).heap[wr.heap.size]? = some (.cells #[.slice va i vc, .slice a1 (i + 1) c1, .slice a2 (i + 2) c2, .slice a3 (i + 3) c3, .int .i64 m] 118 (0, 0)) := hap3.hbx
      have HKD3 := Hid.mk hap3.kd
      have hbl : wr.heap.size < ((w3.setCell ⟨wr.heap.size, 3, none⟩ (.slice a3 (i + 3) c3))).heap.size := (Array.getElem?_eq_some_iff.1 hbx).1
      clear hap3 HAP0 HAP1 HAP2 HAP3
      generalize w3.setCell ⟨wr.heap.size, 3, none⟩ (.slice a3 (i + 3) c3) = W3 at *
      have y0 : W3.cell? ⟨wr.heap.size, 0, none⟩ = some (.slice va i vc) := by simp only [World.cell?, hbx]; rfl
      have y1 : W3.cell? ⟨wr.heap.size, 1, none⟩ = some (.slice a1 (i + 1) c1) := by simp only [World.cell?, hbx]; rfl
      have y2 : W3.cell? ⟨wr.heap.size, 2, none⟩ = some (.slice a2 (i + 2) c2) := by simp only [World.cell?, hbx]; rfl
      have y3 : W3.cell? ⟨wr.heap.size, 3, none⟩ = some (.slice a3 (i + 3) c3) := by simp only [World.cell?, hbx]; rfl
      have y4 : W3.cell? ⟨wr.heap.size, 4, none⟩ = some (.int .i64 m) := by simp only [World.cell?, hbx]; rfl
      have yw : W3.cell? ⟨wb, 4, none⟩ = some (.slice ia ed.length ic) := hw3.cell 4
      have hwl := hw3.lt
      have HBX := Hid.mk hbx
      have HW3 := Hid.mk hw3
      have HEN := Hid.mk hen
      clear hbx hw3 hen
      have HWD : Hid (WB (W3.alloc (.cells #[.slice va i vc, .slice a1 (i + 1) c1, .slice a2 (i + 2) c2, .slice a3 (i + 3) c3, .int .i64 m] 118)).drew wb (fun b => P b ∨ Value.ownBlock (.slice va i vc) = some b ∨ w.heap.size ≤ b) (N + 1) ks ds xv yv iv (.slice ia ed.length ic) rv fv (n + 1) ei ed er ef) := HW3.out.frame fun b hp hb => ⟨Below.heap_alloc _ _ _ hb, hp⟩
      have HLIT : Hid ((W3.alloc (.cells #[.slice va i vc, .slice a1 (i + 1) c1, .slice a2 (i + 2) c2, .slice a3 (i + 3) c3, .int .i64 m] 118)).drew.heap[W3.heap.size]? = some (.cells #[.slice va i vc, .slice a1 (i + 1) c1, .slice a2 (i + 2) c2, .slice a3 (i + 3) c3, .int .i64 m] 118 (0, 0))) := heap_alloc_new W3 _
      have HFIN : Hid (∀ (w5 : World) (v5 : Value), w5.ownsRow 0 118 5 v5 (ed.length + 1) (flatE ed ++ (#[.slice va i vc, .slice a1 (i + 1) c1, .slice a2 (i + 2) c2, .slice a3 (i + 3) c3, .int .i64 m] : Array Value).toList) → Below 0 (W3.alloc (.cells #[.slice va i vc, .slice a1 (i + 1) c1, .slice a2 (i + 2) c2, .slice a3 (i + 3) c3, .int .i64 m] 118)).drew w5 → (W3.alloc (.cells #[.slice va i vc, .slice a1 (i + 1) c1, .slice a2 (i + 2) c2, .slice a3 (i + 3) c3, .int .i64 m] 118)).drew.heap.size ≤ w5.heap.size →
          (∀ b, b < (W3.alloc (.cells #[.slice va i vc, .slice a1 (i + 1) c1, .slice a2 (i + 2) c2, .slice a3 (i + 3) c3, .int .i64 m] 118)).drew.heap.size → Value.ownBlock (.slice ia ed.length ic) ≠ some b → w5.heap[b]? = (W3.alloc (.cells #[.slice va i vc, .slice a1 (i + 1) c1, .slice a2 (i + 2) c2, .slice a3 (i + 3) c3, .int .i64 m] 118)).drew.heap[b]?) → (∀ b, v5.ownBlock = some b → Value.ownBlock (.slice ia ed.length ic) = some b ∨ (W3.alloc (.cells #[.slice va i vc, .slice a1 (i + 1) c1, .slice a2 (i + 2) c2, .slice a3 (i + 3) c3, .int .i64 m] 118)).drew.heap.size ≤ b) →
          BkUpd w (w5.setCell ⟨wb, 4, none⟩ v5) wb P (.slice va i vc) (N + 2) ks ds xv yv) := fun w5 v5 ho hb hz hold hwh => by
        have hzd : W3.heap.size ≤ (W3.alloc (.cells #[.slice va i vc, .slice a1 (i + 1) c1, .slice a2 (i + 2) c2, .slice a3 (i + 3) c3, .int .i64 m] 118)).drew.heap.size := by
          show W3.heap.size ≤ (W3.alloc _).heap.size
          simp
        have hz3 := HKD3.out.size
        have henD : EnOk (W3.alloc (.cells #[.slice va i vc, .slice a1 (i + 1) c1, .slice a2 (i + 2) c2, .slice a3 (i + 3) c3, .int .i64 m] 118)).drew 57 csD (fun b => P b ∨ Value.ownBlock (.slice va i vc) = some b ∨ w.heap.size ≤ b) ⟨.slice va i vc, .slice a1 (i + 1) c1, .slice a2 (i + 2) c2, .slice a3 (i + 3) c3, m, i⟩ := HEN.out.frame fun u hu b e => by
          obtain ⟨cu, hc⟩ := HEN.out.tag hu e
          exact ⟨Below.heap_alloc _ _ _ (Array.getElem?_eq_some_iff.1 hc).1, HEN.out.p u hu b e⟩
        have hwb := HWD.out.addD (N' := N + 2) (by omega) henD ho hold (fun b e => by
          rcases hwh b e with h1 | h1
          · exact HWD.out.d.pb b h1
          · exact Or.inr (Or.inr (by omega)))
        refine ⟨fun b => (P b ∨ Value.ownBlock (.slice va i vc) = some b ∨ w.heap.size ≤ b) ∧ b < (w5.setCell ⟨wb, 4, none⟩ v5).heap.size, ⟨_, _, _, _, _, _, _, _, _, hwb.frame (fun b hp hb => ⟨rfl, hp, hb⟩)⟩, fun b hp => hp.2, AP.upd (wb := wb) (hb.os.trans HKD3.out.os) (hb.tape.trans HKD3.out.tape) (hb.output.trans HKD3.out.output) (by simp; omega) (fun b hb1 h1 h2 h3 => ?_) HW.out.pw⟩
        refine (Below.heap_setCell _ _ _ _ h1).trans ((hold b (by omega) (fun e => h3 (HW.out.d.pb b e))).trans ?_)
        exact (Below.heap_alloc _ _ _ (by omega)).trans (HKD3.out.block b hb1 h1 h2)
      go_region_law (refine step_snocL rfl _ _ _ rfl Tryz.underlying67 Tryz.infoDB rfl (by decide) (by decide) (v := .slice ia ed.length ic) (by simp [Act.eval]) HWD.out.d.own (Nat.zero_le _) (by omega) (cs := #[.slice va i vc, .slice a1 (i + 1) c1, .slice a2 (i + 2) c2, .slice a3 (i + 3) c3, .int .i64 m]) (bb := W3.heap.size) (by simp [Act.eval]) HLIT.out rfl (by simp [Value.oneCell']) ?_; intro v5 w5 ho5 hb5 hz5 hold5 hwh5; obtain ⟨a5, c5, rfl⟩ := own_form ho5; have hwb5 := hold5 wb (by simp; omega) (fun e => by obtain ⟨cu, hc⟩ := own_type HWD.out.d.own e; rw [HWD.out.blk] at hc; cases hc); have b5 : w5.cell? ⟨wb, 4, none⟩ = some (.slice ia ed.length ic) := ((World.cell?_of_block (a := ⟨wb, 4, none⟩) hwb5).trans (HWD.out.cell 4)); have f5 : w5.frozen? ⟨wb, 4, none⟩ = false := ((World.frozen?_of_block (a := ⟨wb, 4, none⟩) hwb5).trans (HWD.out.frozen 4)); have HO5 := Hid.mk ho5; have HB5 := Hid.mk hb5; have HL5 := Hid.mk hold5; have HH5 := Hid.mk hwh5; clear ho5 hb5 hold5 hwh5 hwb5)
      all_goals (go_wp2; go_end0; exact ⟨rfl, HFIN.out w5 _ HO5.out HB5.out hz5 HL5.out HH5.out⟩)
end Go.Proofs.YtaicdjhblbobbaaGreat
