/- What a Kernel is in memory, held against a state of the model. -/
import Derived.Test.YtaicdjhblbobbabGreatGWhole
import Derived.Test.YtaicdjhblbobbabGreatGStuck
import Derived.Test.YtaicdjhblbobbabGreatGCut
import Derived.BigQuiet
import Derived.Deep.QuietTactic
namespace Go.Proofs.YtaicdjhblbobbabGreat
open Go.RowKit Go.Lib

/-- What a lock that is asked for keeps to. -/
structure DS.AskSm (s : DS) (a : Ask) : Prop where
  file : a.file < 3
  o : a.whole = true → a.o < s.N
  rg : a.whole = false → 0 ≤ a.f ∧ a.f ≤ a.t ∧ a.t ≤ 63
/-- Plain bounds of a state. -/
structure DS.Sm (s : DS) : Prop where
  f : ∀ p d o, s.F p d = some o → o < s.N
  o : ∀ o, s.O o < 3
  len : ∀ f, (s.R f).length ≤ 12
  run : ∀ f x, x ∈ s.R f → 0 ≤ x.f ∧ x.f ≤ x.t ∧ x.t ≤ 63
  rp : ∀ f x, x ∈ s.R f → x.p ∈ ps6
  w : ∀ f x, x ∈ s.W f → x.o < s.N
  wl : ∀ f, (s.W f).length ≤ 100
  q : ∀ a, a ∈ s.Q → s.AskSm a
  ql : s.Q.length ≤ 7

theorem nodup_sub {α : Type} [DecidableEq α] : ∀ (l m : List α), l.Nodup → (∀ x, x ∈ l → x ∈ m) → l.length ≤ m.length
  | [], m, _, _ => Nat.zero_le _
  | a :: l, m, hn, h => by
    rw [List.nodup_cons] at hn
    have ha := h a List.mem_cons_self
    have := nodup_sub l (m.erase a) hn.2 (fun x hx => (List.mem_erase_of_ne (fun (e : x = a) => hn.1 (by rw [← e]; exact hx))).2 (h x (List.mem_cons_of_mem _ hx)))
    rw [List.length_erase_of_mem ha] at this
    have := List.length_pos_of_mem ha
    simp only [List.length_cons]
    omega
theorem ones_le {l : List Ask} (h : l.Pairwise fun a b => a.p ≠ b.p) (hp : ∀ a, a ∈ l → a.p ∈ ps6) : l.length ≤ 6 := by
  have := nodup_sub (l.map (·.p)) ps6 (by rw [List.nodup_iff_pairwise_ne, List.pairwise_map]; exact h) (fun x hx => by
    obtain ⟨a, ha, rfl⟩ := List.mem_map.1 hx
    exact hp a ha)
  simpa [ps6] using this
theorem DS.AskOk.sm {s : DS} (hb : s.Bas) {a : Ask} (h : s.AskOk a) : s.AskSm a :=
  ⟨h.file, fun e => by
    obtain ⟨d, _, hd⟩ := DS.has_iff.1 (h.wh e).1
    exact (hb.f _ _ _ hd).2.2.2, h.rg⟩
theorem DS.Bas.inN {s : DS} (h : s.Bas) {o : Nat} (hu : s.inUse o = true) : o < s.N := by
  obtain ⟨p, _, hp⟩ := DS.inUse_iff.1 hu
  obtain ⟨d, _, hd⟩ := DS.has_iff.1 hp
  exact (h.f _ _ _ hd).2.2.2
theorem DS.Bas.sm {s : DS} (h : s.Bas) : s.Sm where
  f := fun p d o e => (h.f p d o e).2.2.2
  o := h.o
  len := h.len
  run := fun f x hx => by have := (h.wf f).ok x hx; unfold Rn.fine at this; omega
  rp := fun f x hx => live_mem (h.lv f x hx)
  w := fun f x hx => h.inN (h.w f x hx).1
  wl := fun f => by
    have := nodup_sub ((s.W f).map fun x => some x.o) (ps6.flatMap fun p => ds5.map fun d => s.F p d) (by
      rw [List.nodup_iff_pairwise_ne, List.pairwise_map]
      exact (h.wn f).imp fun hx e => hx.1 (Option.some.inj e)) (fun y hy => by
      obtain ⟨x, hx, rfl⟩ := List.mem_map.1 hy
      obtain ⟨p, hp, hh⟩ := DS.inUse_iff.1 (h.w f x hx).1
      obtain ⟨d, hd, e⟩ := DS.has_iff.1 hh
      exact List.mem_flatMap.2 ⟨p, hp, List.mem_map.2 ⟨d, hd, e⟩⟩)
    have e : (ps6.flatMap fun p => ds5.map fun d => s.F p d).length = 30 := by simp [ps6, ds5]
    rw [e] at this
    simp only [List.length_map] at this
    omega
  q := fun a ha => (h.q a ha).1.sm h
  ql := by have := ones_le h.qn (fun a ha => live_mem (h.q a ha).1.l); omega

/-- Openings by their blocks. -/
def renF (ι : Nat → Nat) (F : Int → Int → Option Nat) : Int → Int → Option Nat := fun p d => (F p d).map ι
def renW (ι : Nat → Nat) (l : List Wl) : List Wl := l.map fun x => ⟨ι x.o, x.k⟩
def renA (ι : Nat → Nat) (a : Ask) : Ask := {a with o := ι a.o}
def renQ (ι : Nat → Nat) (l : List Ask) : List Ask := l.map (renA ι)
theorem renW_len (ι : Nat → Nat) (l : List Wl) : (renW ι l).length = l.length := by simp [renW]
theorem renQ_len (ι : Nat → Nat) (l : List Ask) : (renQ ι l).length = l.length := by simp [renQ]

/-- The Kernel in block kb, its table in tb, the map in mb; g: the guard's word; all its blocks are of P. -/
structure KV (w : World) (kb tb mb : Nat) (g : Int) (P : Nat → Prop) (ι : Nat → Nat) (s : DS) (rv wv : Nat → Value) (qv : Value) : Prop where
  k : w.heap[kb]? = some (.cells #[.int .i32 g, .int .u32 0, .pointer (some ⟨tb, 0, none⟩), rv 0, wv 0, rv 1, wv 1, rv 2, wv 2, qv] 74 (0, 0))
  t : Tab w tb mb s.L
  m : MapAt w mb (renF ι s.F)
  o : ∀ o, o < s.N → OpenAt w (ι o) (s.O o)
  inj : ∀ a b, a < s.N → b < s.N → ι a = ι b → a = b
  r : ∀ i, i < 3 → w.ownsRow 0 85 4 (rv i) (s.R i).length (flat (s.R i))
  wr : ∀ i, i < 3 → w.ownsRow 0 91 2 (wv i) (renW ι (s.W i)).length (flatWl (renW ι (s.W i)))
  q : w.ownsRow 0 93 8 qv (renQ ι s.Q).length (flatQ (renQ ι s.Q))
  pk : P kb ∧ P tb ∧ P mb
  po : ∀ o, o < s.N → P (ι o)
  pr : ∀ i, i < 3 → ∀ b, (rv i).ownBlock = some b → P b
  pw : ∀ i, i < 3 → ∀ b, (wv i).ownBlock = some b → P b
  pq : ∀ b, qv.ownBlock = some b → P b
  sm : s.Sm

section
variable {w w' : World} {kb tb mb : Nat} {g : Int} {P : Nat → Prop} {ι : Nat → Nat} {s : DS} {rv wv : Nat → Value} {qv : Value}
theorem KV.lt (h : KV w kb tb mb g P ι s rv wv qv) : kb < w.heap.size := (Array.getElem?_eq_some_iff.1 h.k).1
theorem KV.ne1 (h : KV w kb tb mb g P ι s rv wv qv) : kb ≠ tb := fun e => by
  have hk := h.k
  have ht := h.t
  unfold Tab at ht
  rw [e, ht] at hk
  cases hk
theorem KV.ne2 (h : KV w kb tb mb g P ι s rv wv qv) : kb ≠ mb := fun e => by
  have hk := h.k
  obtain ⟨es, c, M, hm, _⟩ := h.m
  rw [e, hm] at hk
  cases hk
theorem KV.ne3 (h : KV w kb tb mb g P ι s rv wv qv) : tb ≠ mb := fun e => by
  have ht := h.t
  obtain ⟨es, c, M, hm, _⟩ := h.m
  unfold Tab at ht
  rw [e, hm] at ht
  cases ht
/-- A block of another type is none of the three. -/
theorem KV.far (h : KV w kb tb mb g P ι s rv wv qv) {b : Nat} {cur : Array Value} {t : TypeId} (hb : w.heap[b]? = some (.cells cur t (0, 0))) (h1 : t ≠ 74) (h2 : t ≠ 108) : b ∉ [kb, tb, mb] := by
  have hk := h.k
  have ht := h.t
  obtain ⟨es, c, M, hm, _⟩ := h.m
  unfold Tab at ht
  intro hmem
  simp only [List.mem_cons, List.not_mem_nil, or_false] at hmem
  rcases hmem with rfl | rfl | rfl
  · rw [hk] at hb; cases hb; exact h1 rfl
  · rw [ht] at hb; cases hb; exact h2 rfl
  · rw [hm] at hb; cases hb
/-- What is none of the three stays. -/
structure Keeps (w' : World) (ι : Nat → Nat) (s : DS) (rv wv : Nat → Value) (qv : Value) : Prop where
  o : ∀ o, o < s.N → OpenAt w' (ι o) (s.O o)
  r : ∀ i, i < 3 → w'.ownsRow 0 85 4 (rv i) (s.R i).length (flat (s.R i))
  wr : ∀ i, i < 3 → w'.ownsRow 0 91 2 (wv i) (renW ι (s.W i)).length (flatWl (renW ι (s.W i)))
  q : w'.ownsRow 0 93 8 qv (renQ ι s.Q).length (flatQ (renQ ι s.Q))
theorem own_kp (h : KV w kb tb mb g P ι s rv wv qv) (hk : Kp [kb, tb, mb] w w') {base : Nat} {t : TypeId} {sz : Nat} {v : Value} {n : Nat} {xs : List Value} (ho : w.ownsRow base t sz v n xs) (h1 : t ≠ 74) (h2 : t ≠ 108) : w'.ownsRow base t sz v n xs :=
  own_blk ho fun b e => by
    obtain ⟨cur, hc⟩ := own_tag ho e
    exact hk.block b (ho.lt b e).2 (h.far hc h1 h2)
theorem KV.keeps (h : KV w kb tb mb g P ι s rv wv qv) (hk : Kp [kb, tb, mb] w w') : Keeps w' ι s rv wv qv :=
  ⟨fun o ho => (h.o o ho).of_block (hk.block _ (Array.getElem?_eq_some_iff.1 (h.o o ho)).1 (h.far (h.o o ho) (by decide) (by decide))),
   fun i hi => own_kp h hk (h.r i hi) (by decide) (by decide), fun i hi => own_kp h hk (h.wr i hi) (by decide) (by decide), own_kp h hk h.q (by decide) (by decide)⟩
theorem KV.below (h : KV w kb tb mb g P ι s rv wv qv) (hb : Below w.heap.size w w') : KV w' kb tb mb g P ι s rv wv qv := by
  have hk := h.keeps (Kp.below hb)
  exact ⟨(hb.block kb h.lt).trans h.k, h.t.of_block (hb.block tb h.t.lt), h.m.of_block (hb.block mb h.m.lt), hk.o, h.inj, hk.r, hk.wr, hk.q, h.pk, h.po, h.pr, h.pw, h.pq, h.sm⟩
theorem KV.mono {Q : Nat → Prop} (h : KV w kb tb mb g P ι s rv wv qv) (hq : ∀ b, P b → Q b) : KV w kb tb mb g Q ι s rv wv qv :=
  ⟨h.k, h.t, h.m, h.o, h.inj, h.r, h.wr, h.q, ⟨hq _ h.pk.1, hq _ h.pk.2.1, hq _ h.pk.2.2⟩, fun o ho => hq _ (h.po o ho), fun i hi b e => hq _ (h.pr i hi b e), fun i hi b e => hq _ (h.pw i hi b e), fun b e => hq _ (h.pq b e), h.sm⟩
theorem KV.opn (h : KV w kb tb mb g P ι s rv wv qv) {o : Nat} (ho : o < s.N) : Opn w (ι o) := ⟨_, h.o o ho⟩
theorem KV.opnG (h : KV w kb tb mb g P ι s rv wv qv) (p d : Int) (x : Nat) (e : renF ι s.F p d = some x) : Opn w x := by
  unfold renF at e
  cases ho : s.F p d with
  | none => rw [ho] at e; cases e
  | some o => rw [ho] at e; cases e; exact h.opn (h.sm.f p d o ho)
theorem KV.frz (h : KV w kb tb mb g P ι s rv wv qv) (o : Nat) : w.frozen? ⟨kb, o, none⟩ = false := by simp [World.frozen?, h.k]
theorem KV.c0 (h : KV w kb tb mb g P ι s rv wv qv) : w.cell? ⟨kb, 0, none⟩ = some (.int .i32 g) := by simp [World.cell?, h.k]
theorem KV.c2 (h : KV w kb tb mb g P ι s rv wv qv) : w.cell? ⟨kb, 2, none⟩ = some (.pointer (some ⟨tb, 0, none⟩)) := by simp [World.cell?, h.k]
theorem KV.c9 (h : KV w kb tb mb g P ι s rv wv qv) : w.cell? ⟨kb, 9, none⟩ = some qv := by simp [World.cell?, h.k]
theorem KV.cr (h : KV w kb tb mb g P ι s rv wv qv) (i : Nat) (hi : i < 3) : w.cell? ⟨kb, 3 + i * 2, none⟩ = some (rv i) := by
  obtain rfl | rfl | rfl : i = 0 ∨ i = 1 ∨ i = 2 := by omega
  all_goals simp [World.cell?, h.k]
theorem KV.cw (h : KV w kb tb mb g P ι s rv wv qv) (i : Nat) (hi : i < 3) : w.cell? ⟨kb, 3 + i * 2 + 1, none⟩ = some (wv i) := by
  obtain rfl | rfl | rfl : i = 0 ∨ i = 1 ∨ i = 2 := by omega
  all_goals simp [World.cell?, h.k]

theorem KV.setRuns (h : KV w kb tb mb g P ι s rv wv qv) (i : Nat) (hi : i < 3) {v : Value} {l : List Rn} (hv : w.ownsRow 0 85 4 v l.length (flat l)) (hp : ∀ b, v.ownBlock = some b → P b) (hs : DS.Sm {s with R := updR s.R i l}) :
    KV (w.setCell ⟨kb, 3 + i * 2, none⟩ v) kb tb mb g P ι {s with R := updR s.R i l} (updR rv i v) wv qv := by
  have hkp : Kp [kb, tb, mb] w (w.setCell ⟨kb, 3 + i * 2, none⟩ v) := Kp.setCell (by simp)
  have hk := h.keeps hkp
  have hq := own_kp h hkp hv (by decide) (by decide)
  refine ⟨?_, h.t.of_block (Below.heap_setCell _ _ _ _ h.ne1.symm), h.m.of_block (Below.heap_setCell _ _ _ _ h.ne2.symm), hk.o, h.inj, fun j hj => ?_, hk.wr, hk.q, h.pk, h.po, fun j hj b e => ?_, h.pw, h.pq, hs⟩
  · rw [heap_setCell_at h.k]
    obtain rfl | rfl | rfl : i = 0 ∨ i = 1 ∨ i = 2 := by omega
    all_goals simp [updR]
  · simp only [updR]
    by_cases e : j = i
    · simp only [if_pos e]; exact hq
    · simp only [if_neg e]; exact hk.r j hj
  · simp only [updR] at e
    split at e
    · exact hp b e
    · exact h.pr j hj b e
theorem KV.setWholes (h : KV w kb tb mb g P ι s rv wv qv) (i : Nat) (hi : i < 3) {v : Value} {l : List Wl} (hv : w.ownsRow 0 91 2 v (renW ι l).length (flatWl (renW ι l))) (hp : ∀ b, v.ownBlock = some b → P b) (hs : DS.Sm {s with W := updR s.W i l}) :
    KV (w.setCell ⟨kb, 3 + i * 2 + 1, none⟩ v) kb tb mb g P ι {s with W := updR s.W i l} rv (updR wv i v) qv := by
  have hkp : Kp [kb, tb, mb] w (w.setCell ⟨kb, 3 + i * 2 + 1, none⟩ v) := Kp.setCell (by simp)
  have hk := h.keeps hkp
  have hq := own_kp h hkp hv (by decide) (by decide)
  refine ⟨?_, h.t.of_block (Below.heap_setCell _ _ _ _ h.ne1.symm), h.m.of_block (Below.heap_setCell _ _ _ _ h.ne2.symm), hk.o, h.inj, hk.r, fun j hj => ?_, hk.q, h.pk, h.po, h.pr, fun j hj b e => ?_, h.pq, hs⟩
  · rw [heap_setCell_at h.k]
    obtain rfl | rfl | rfl : i = 0 ∨ i = 1 ∨ i = 2 := by omega
    all_goals simp [updR]
  · simp only [updR]
    by_cases e : j = i
    · simp only [if_pos e]; exact hq
    · simp only [if_neg e]; exact hk.wr j hj
  · simp only [updR] at e
    split at e
    · exact hp b e
    · exact h.pw j hj b e
theorem KV.setQueue (h : KV w kb tb mb g P ι s rv wv qv) {v : Value} {l : List Ask} (hv : w.ownsRow 0 93 8 v (renQ ι l).length (flatQ (renQ ι l))) (hp : ∀ b, v.ownBlock = some b → P b) (hs : DS.Sm {s with Q := l}) :
    KV (w.setCell ⟨kb, 9, none⟩ v) kb tb mb g P ι {s with Q := l} rv wv v := by
  have hkp : Kp [kb, tb, mb] w (w.setCell ⟨kb, 9, none⟩ v) := Kp.setCell (by simp)
  have hk := h.keeps hkp
  exact ⟨by rw [heap_setCell_at h.k]; rfl, h.t.of_block (Below.heap_setCell _ _ _ _ h.ne1.symm), h.m.of_block (Below.heap_setCell _ _ _ _ h.ne2.symm), hk.o, h.inj, hk.r, hk.wr, own_kp h hkp hv (by decide) (by decide), h.pk, h.po, h.pr, h.pw, hp, hs⟩
theorem KV.setGuard (h : KV w kb tb mb g P ι s rv wv qv) (g' : Int) : KV (w.setCell ⟨kb, 0, none⟩ (.int .i32 g')) kb tb mb g' P ι s rv wv qv := by
  have hkp : Kp [kb, tb, mb] w (w.setCell ⟨kb, 0, none⟩ (.int .i32 g')) := Kp.setCell (by simp)
  have hk := h.keeps hkp
  exact ⟨by rw [heap_setCell_at h.k]; rfl, h.t.of_block (Below.heap_setCell _ _ _ _ h.ne1.symm), h.m.of_block (Below.heap_setCell _ _ _ _ h.ne2.symm), hk.o, h.inj, hk.r, hk.wr, hk.q, h.pk, h.po, h.pr, h.pw, h.pq, h.sm⟩
/-- The table turned. -/
theorem KV.table (h : KV w kb tb mb g P ι s rv wv qv) (hkp : Kp [tb, mb] w w') {L' : Nat → Bool} {F' : Int → Int → Option Nat} (ht : Tab w' tb mb L') (hm : MapAt w' mb (renF ι F')) (hs : DS.Sm {s with L := L', F := F'}) :
    KV w' kb tb mb g P ι {s with L := L', F := F'} rv wv qv := by
  have hk := h.keeps (hkp.mono (cs := [kb, tb, mb]) (by simp))
  exact ⟨(hkp.block kb h.lt (by simp [h.ne1, h.ne2])).trans h.k, ht, hm, hk.o, h.inj, hk.r, hk.wr, hk.q, h.pk, h.po, h.pr, h.pw, h.pq, hs⟩
/-- Blocks of a type that is none of the Kernel's may turn. -/
theorem KV.but (h : KV w kb tb mb g P ι s rv wv qv) {t2 : TypeId} (n1 : t2 ≠ 74) (n2 : t2 ≠ 108) (n3 : t2 ≠ 97) (n4 : t2 ≠ 85) (n5 : t2 ≠ 91) (n6 : t2 ≠ 93)
    (hold : ∀ b, b < w.heap.size → (∀ cur fr, w.heap[b]? ≠ some (.cells cur t2 fr)) → w'.heap[b]? = w.heap[b]?) : KV w' kb tb mb g P ι s rv wv qv := by
  have key : ∀ {b : Nat} {cur : Array Value} {t : TypeId}, w.heap[b]? = some (.cells cur t (0, 0)) → t2 ≠ t → w'.heap[b]? = w.heap[b]? := fun {b cur t} hb hne =>
    hold b (Array.getElem?_eq_some_iff.1 hb).1 fun c fr e => by rw [hb] at e; cases e; exact hne rfl
  have row : ∀ {base : Nat} {t : TypeId} {sz : Nat} {v : Value} {n : Nat} {xs : List Value}, w.ownsRow base t sz v n xs → t2 ≠ t → w'.ownsRow base t sz v n xs := fun ho hne => own_blk ho fun b e => by
    obtain ⟨cur, hc⟩ := own_tag ho e
    exact key hc hne
  have hm : w'.heap[mb]? = w.heap[mb]? := hold mb h.m.lt fun c fr e => by obtain ⟨es, ck, M, hm, _⟩ := h.m; rw [hm] at e; cases e
  exact ⟨(key h.k n1).trans h.k, h.t.of_block (key h.t n2), h.m.of_block hm, fun o ho => (h.o o ho).of_block (key (h.o o ho) n3), h.inj, fun i hi => row (h.r i hi) n4, fun i hi => row (h.wr i hi) n5, row h.q n6, h.pk, h.po, h.pr, h.pw, h.pq, h.sm⟩
theorem own_but {b2 : Nat} {t2 : TypeId} {z2 : Nat} {v : Value} {m : Nat} {ys : List Value} (h2 : w.ownsRow b2 t2 z2 v m ys) (hold : ∀ b, b < w.heap.size → v.ownBlock ≠ some b → w'.heap[b]? = w.heap[b]?) : ∀ b, b < w.heap.size → (∀ cur fr, w.heap[b]? ≠ some (.cells cur t2 fr)) → w'.heap[b]? = w.heap[b]? :=
  fun b hb hn => hold b hb fun e => by
    obtain ⟨cur, hc⟩ := own_tag h2 e
    exact hn _ _ hc
end
end Go.Proofs.YtaicdjhblbobbabGreat

/- Openings by their blocks: what the program tells of blocks is what the model tells of openings. -/
namespace Go.Proofs.YtaicdjhblbobbabGreat
open Go.RowKit Go.Lib

/-- ι gives different openings different blocks. -/
structure DS.Rn (s : DS) (ι : Nat → Nat) : Prop where
  inj : ∀ a b, a < s.N → b < s.N → ι a = ι b → a = b
  sm : s.Sm
theorem KV.rn {w : World} {kb tb mb : Nat} {g : Int} {P : Nat → Prop} {ι : Nat → Nat} {s : DS} {rv wv : Nat → Value} {qv : Value} (h : KV w kb tb mb g P ι s rv wv qv) : s.Rn ι := ⟨h.inj, h.sm⟩
section
variable {s : DS} {ι : Nat → Nat}
theorem DS.Rn.iff (h : s.Rn ι) {a b : Nat} (ha : a < s.N) (hb : b < s.N) : ι a = ι b ↔ a = b := ⟨h.inj a b ha hb, fun e => by rw [e]⟩
theorem DS.Rn.fd (h : s.Rn ι) {o : Nat} (ho : o < s.N) (p d : Int) : renF ι s.F p d = some (ι o) ↔ s.F p d = some o := by
  unfold renF
  cases e : s.F p d with
  | none => simp
  | some o' =>
    simp only [Option.map_some, Option.some.injEq]
    exact h.iff (h.sm.f p d o' e) ho
theorem DS.Rn.has (h : s.Rn ι) {o : Nat} (ho : o < s.N) (p : Int) : hasG (renF ι s.F) (ι o) p = s.has o p := by
  unfold hasG DS.has
  congr 1
  funext d
  exact decide_eq_decide.2 (h.fd ho p d)
theorem DS.Rn.users (h : s.Rn ι) {o : Nat} (ho : o < s.N) : usersG (renF ι s.F) (ι o) = s.users o := by
  unfold usersG DS.users
  congr 1
  funext p
  exact h.has ho p
theorem DS.Rn.inUse (h : s.Rn ι) {o : Nat} (ho : o < s.N) : ps6.any (hasG (renF ι s.F) (ι o)) = s.inUse o := by
  unfold DS.inUse
  congr 1
  funext p
  exact h.has ho p
theorem renA_rn (ι : Nat → Nat) (a : Ask) : (renA ι a).rn = a.rn := rfl
theorem renA_wk (ι : Nat → Nat) (a : Ask) : (renA ι a).wk = a.wk := rfl
theorem renA_p (ι : Nat → Nat) (a : Ask) : (renA ι a).p = a.p := rfl
theorem renA_file (ι : Nat → Nat) (a : Ask) : (renA ι a).file = a.file := rfl
theorem renA_whole (ι : Nat → Nat) (a : Ask) : (renA ι a).whole = a.whole := rfl
theorem renA_ow (ι : Nat → Nat) (a : Ask) : (renA ι a).ow = a.ow.map ι := by
  unfold Ask.ow renA
  cases a.whole <;> rfl
theorem ow_lt {a : Ask} (h : s.AskSm a) {o : Nat} (e : a.ow = some o) : o < s.N := by
  unfold Ask.ow at e
  split at e
  · rename_i hw; cases e; exact h.o hw
  · cases e
theorem DS.Rn.bitesW (h : s.Rn ι) {a : Ask} (ha : s.AskSm a) {o : Nat} (ho : o < s.N) (k k' : Int) : bitesW (some (ι o)) k ((renA ι a).ow) k' = bitesW (some o) k a.ow k' := by
  unfold Go.Proofs.YtaicdjhblbobbabGreat.bitesW
  congr 1
  rw [renA_ow]
  refine decide_eq_decide.2 (not_congr ?_)
  cases e : a.ow with
  | none => simp
  | some o' => simp only [Option.map_some, Option.some.injEq]; exact h.iff ho (ow_lt ha e)
theorem DS.Rn.wb (h : s.Rn ι) {a : Ask} (ha : s.AskSm a) (f : Nat) : wbP (renW ι (s.W f)) (renA ι a).ow a.wk = (((s.W f).filter fun w => Go.Proofs.YtaicdjhblbobbabGreat.bitesW (some w.o) w.k a.ow a.wk).map fun w => ι w.o) := by
  unfold wbP renW
  rw [List.filter_map, List.map_map]
  have e : (s.W f).filter ((fun x => Go.Proofs.YtaicdjhblbobbabGreat.bitesW (some x.o) x.k (renA ι a).ow a.wk) ∘ fun x => (⟨ι x.o, x.k⟩ : Wl)) = (s.W f).filter fun w => Go.Proofs.YtaicdjhblbobbabGreat.bitesW (some w.o) w.k a.ow a.wk :=
    List.filter_congr fun x hx => h.bitesW ha (h.sm.w f x hx) x.k a.wk
  rw [e]
  rfl
theorem DS.Rn.bitesQ (h : s.Rn ι) {a b : Ask} (ha : s.AskSm a) (hb : s.AskSm b) : bitesQ (renA ι b) (renA ι a) = bitesQ b a := by
  unfold Go.Proofs.YtaicdjhblbobbabGreat.bitesQ
  rw [renA_rn, renA_rn, renA_wk, renA_wk, renA_file, renA_file]
  congr 2
  unfold Go.Proofs.YtaicdjhblbobbabGreat.bitesW
  congr 1
  rw [renA_ow, renA_ow]
  refine decide_eq_decide.2 (not_congr ?_)
  cases e : a.ow with
  | none => cases e' : b.ow <;> simp
  | some o' =>
    cases e' : b.ow with
    | none => simp
    | some o => simp only [Option.map_some, Option.some.injEq]; exact h.iff (ow_lt hb e') (ow_lt ha e)
theorem DS.Rn.qb (h : s.Rn ι) {a : Ask} (ha : s.AskSm a) {l : List Ask} (hl : ∀ b, b ∈ l → s.AskSm b) : qbP (renQ ι l) (renA ι a) = ((l.filter fun b => Go.Proofs.YtaicdjhblbobbabGreat.bitesQ b a).map (·.p)) := by
  unfold qbP renQ
  rw [List.filter_map, List.map_map]
  have e : l.filter ((fun b => Go.Proofs.YtaicdjhblbobbabGreat.bitesQ b (renA ι a)) ∘ renA ι) = l.filter fun b => Go.Proofs.YtaicdjhblbobbabGreat.bitesQ b a :=
    List.filter_congr fun x hx => h.bitesQ ha (hl x hx)
  rw [e]
  rfl
theorem DS.Rn.mem (h : s.Rn ι) {f : Nat} {o : Nat} (ho : o < s.N) {k : Int} : (⟨ι o, k⟩ : Wl) ∈ renW ι (s.W f) ↔ (⟨o, k⟩ : Wl) ∈ s.W f := by
  unfold renW
  rw [List.mem_map]
  constructor
  · rintro ⟨x, hx, e⟩
    injection e with e1 e2
    have := (h.iff (h.sm.w f x hx) ho).1 e1
    cases x
    simp only at this e2
    subst this e2
    exact hx
  · exact fun hx => ⟨_, hx, rfl⟩
theorem DS.Rn.setW (h : s.Rn ι) {f : Nat} {o : Nat} (ho : o < s.N) (k : Int) : setW (renW ι (s.W f)) (ι o) k = renW ι (setW (s.W f) o k) := by
  unfold Go.Proofs.YtaicdjhblbobbabGreat.setW
  by_cases hm : (⟨o, k⟩ : Wl) ∈ s.W f
  · rw [if_pos ((h.mem ho).2 hm), if_pos hm]
  · rw [if_neg (fun e => hm ((h.mem ho).1 e)), if_neg hm]
    unfold renW
    rw [List.map_append, List.filter_map]
    have e : (s.W f).filter ((fun w : Wl => decide (w.o ≠ ι o)) ∘ fun x => (⟨ι x.o, x.k⟩ : Wl)) = (s.W f).filter fun w => decide (w.o ≠ o) :=
      List.filter_congr fun x hx => decide_eq_decide.2 (not_congr (h.iff (h.sm.w f x hx) ho))
    rw [e]
    congr 1
    split <;> rfl
theorem DS.Rn.keep (h : s.Rn ι) (f : Nat) : ((renW ι (s.W f)).filter fun x => ps6.any (hasG (renF ι s.F) x.o)) = renW ι ((s.W f).filter fun w => s.inUse w.o) := by
  unfold renW
  rw [List.filter_map]
  congr 1
  exact List.filter_congr fun x hx => h.inUse (h.sm.w f x hx)
theorem renQ_get {l : List Ask} {i : Nat} {a : Ask} (h : l[i]? = some a) : (renQ ι l)[i]? = some (renA ι a) := by simp [renQ, h]
theorem renQ_take (l : List Ask) (i : Nat) : renQ ι (l.take i) = (renQ ι l).take i := by simp [renQ]
theorem renQ_map_p (l : List Ask) : (renQ ι l).map (·.p) = l.map (·.p) := by simp [renQ, renA]
theorem renQ_filter (l : List Ask) (p : Int) : ((renQ ι l).filter fun a => decide (a.p ≠ p)) = renQ ι (l.filter fun a => decide (a.p ≠ p)) := by
  unfold renQ
  rw [List.filter_map]
  rfl
theorem renF_updF (F : Int → Int → Option Nat) (p d : Int) (o : Option Nat) : renF ι (updF F p d o) = updF (renF ι F) p d (o.map ι) := by
  funext q e
  unfold renF updF
  split <;> rfl
theorem renF_copyF (F : Int → Int → Option Nat) (p c : Int) (k : Nat) : renF ι (copyF F p c k) = copyF (renF ι F) p c k := by
  funext q e
  unfold renF copyF
  split <;> rfl
end
end Go.Proofs.YtaicdjhblbobbabGreat

/- Contract of wholes.List.Set: a lock that came, or went. -/
namespace Go.Proofs.YtaicdjhblbobbabGreat
open Go.RowKit Go.Lib

theorem Tryz.fieldsLock : Tryz.prog.underlying 91 = some (.struct (Tryz.prog.fieldsOf 91)) := by kernel_rfl
theorem Tryz.stoodLock : Tryz.prog.stoodInHeld 91 = false := by kernel_rfl
theorem run_equalIn_lock (n : Nat) {w : World} {o o' : Option Nat} (k k' : Int) (h : ∀ b, o = some b → Opn w b) (h' : ∀ b, o' = some b → Opn w b) :
    (Op.equalIn (n + 2) 91 (.agg #[ptrV o, .int .i64 k]) (.agg #[ptrV o', .int .i64 k'])).run Tryz.prog w = .ok (decide (o = o') && decide (k = k')) w := by
  have h3 := TypeDesc.struct.inj (Option.some.inj (Tryz.underlying91.symm.trans Tryz.fieldsLock))
  have hi : (Op.equalIn (n + 1) 83 (.int .i64 k) (.int .i64 k')).run Tryz.prog w = .ok (k == k') w := run_equalIn_int w n 83 .i64 .i64 k k' Tryz.underlying83
  have hp := run_eqlPtrIn h h' n
  rw [run_equalIn_struct w (n + 1) 91 _ _ Tryz.fieldsLock Tryz.stoodLock, ← h3]
  simp only [Op.eqFields]
  simp [part, Tryz.isAgg83, Tryz.isAgg89, hi, hp]
  by_cases h1 : o = o' <;> by_cases h2 : k = k' <;> simp [h1, h2]
theorem run_eql_lock {w : World} {o o' : Option Nat} {k k' : Int} (h : ∀ b, o = some b → Opn w b) (h' : ∀ b, o' = some b → Opn w b) :
    (binOp .eql 91 (.agg #[ptrV o, .int .i64 k]) (.agg #[ptrV o', .int .i64 k'])).run Tryz.prog w = .ok (.bool (decide (o = o') && decide (k = k'))) w := by
  have hq : (Op.equal 91 (.agg #[ptrV o, .int .i64 k]) (.agg #[ptrV o', .int .i64 k'])).run Tryz.prog w = .ok (decide (o = o') && decide (k = k')) w := run_equalIn_lock 9998 k k' h h'
  simp only [binOp]
  simp [hq]

def idxW (l : List Wl) (o : Option Nat) (k : Int) : Int := idxF l fun x => decide (o = some x.o) && decide (k = x.k)
set_option maxHeartbeats 4000000 in
set_option maxRecDepth 100000 in
theorem wIndex_any {v : Value} {l : List Wl} (o : Option Nat) (k : Int) {w : World} (hv : w.ownsRow 0 91 2 v l.length (flatWl l)) (hl : l.length < 90000) (hO : ∀ x, x ∈ l → Opn w x.o) (ho : ∀ b, o = some b → Opn w b) :
    Calls Tryz.prog 115 #[v, .agg #[ptrV o, .int .i64 k]] w fun e w' => e = .returned (.int .i64 (idxW l o k)) ∧ Below w.heap.size w w' := by
  obtain ⟨a, c, rfl⟩ := own_form hv
  have HV := Hid.mk hv
  have hb : Below w.heap.size w (w.alloc (.cells #[ptrV o, .int .i64 k] 91)) := (Below.refl _ _).alloc (Nat.le_refl _) _
  have HQ := Hid.mk (fun (W : World) (hW : Below w.heap.size w W) (x : Wl) (hx : x ∈ l) => run_eqlPtrIn (w := W) (o := o) (o' := some x.o) (fun b e => (ho b e).below hW) (fun b e => by cases e; exact (hO x hx).below hW) 9998)
  have HB := Hid.mk hb
  clear hv hO ho hb
  have HP := Hid.mk (show ptrV o = .pointer (o.map fun b => ⟨b, 0, none⟩) from rfl)
  generalize hA : o.map (fun b => (⟨b, 0, none⟩ : Addr)) = A at HP
  rw [HP.out] at HQ HB ⊢
  clear hA HP
  go_enter Tryz.func115, Tryz.ntmps115
  go_wp2
  go_loopw [5, 8] (fun _ s8 wr => ∃ n : Nat, s8 = .int .i64 n ∧ n ≤ l.length ∧ Hid (∀ (j : Nat) (y : Wl), j < n → l[j]? = some y → (decide (o = some y.o) && decide (k = y.k)) = false) ∧ Hid (Below (w.heap.size + 1) (w.alloc (.cells #[.pointer A, .int .i64 k] 91)) wr)) (fun _ s8 _ => l.length - (intOf s8).toNat)
  case atStart => exact ⟨0, rfl, Nat.zero_le _, fun j y hj => absurd hj (Nat.not_lt_zero _), Below.refl _ _⟩
  case round =>
    obtain ⟨n, rfl, hn, HF, HBr⟩ := hrel
    have hb1 : Below w.heap.size w wr := HB.out.trans (HBr.out.mono (Nat.le_succ _))
    have hsz : w.heap.size + 1 ≤ wr.heap.size := by have := HBr.out.size; simpa using this
    by_cases hlt : n < l.length
    · obtain ⟨x, hx⟩ : ∃ x, l[n]? = some x := ⟨_, List.getElem?_eq_getElem hlt⟩
      obtain ⟨g, rfl, _, hg, _, hcell⟩ := own_some HV.out (by omega)
      obtain ⟨f0, f1⟩ := flatWl_cell hx
      have hlt' : (n : Int) < (l.length : Int) := by omega
      have c0 : wr.cell? ⟨g, n * 2, none⟩ = some (.pointer (some ⟨x.o, 0, none⟩)) := (hb1.cell (p := ⟨g, n * 2, none⟩) hg).trans ((hcell _ (by omega)).trans f0)
      have c1 : wr.cell? ⟨g, n * 2 + 1, none⟩ = some (.int .i64 x.k) := (hb1.cell (p := ⟨g, n * 2 + 1, none⟩) hg).trans ((hcell _ (by omega)).trans f1)
      have d0 : wr.cell? ⟨w.heap.size, 0, none⟩ = some (.pointer A) := (HBr.out.cell (p := ⟨w.heap.size, 0, none⟩) (Nat.lt_succ_self _)).trans (by simp)
      have d1 : wr.cell? ⟨w.heap.size, 1, none⟩ = some (.int .i64 k) := (HBr.out.cell (p := ⟨w.heap.size, 1, none⟩) (Nat.lt_succ_self _)).trans (by simp)
      have hq := HQ.out wr.drew hb1.drew x (List.mem_of_getElem? hx)
      have HX := Hid.mk hx
      have HB1 := Hid.mk hb1
      have hgw : g < wr.heap.size := by omega
      have hww : w.heap.size < wr.heap.size := by omega
      clear hcell f0 f1 hx hb1
      simp only [ptrV, Option.map_some] at hq
      by_cases h1 : o = some x.o
      · by_cases h2 : k = x.k
        · have HT : Hid ((decide (o = some x.o) && decide (k = x.k)) = true) := by show _ = true; simp [h1, h2]
          rw [decide_eq_true h1] at hq
          rw [← h2] at c1
          clear h1 h2
          go_wp2
          go_region
          go_wp2
          go_ret
          refine ⟨ret_i64 ?_, HB1.out.drew⟩
          unfold idxW
          rw [idxF_hit HX.out HT.out HF.out]
        · have HT : Hid ((decide (o = some x.o) && decide (k = x.k)) = false) := by show _ = false; simp [h2]
          rw [decide_eq_true h1] at hq
          clear h1
          go_wp2
          go_region
          go_wp2
          go_roundw
          case rel =>
            refine ⟨n + 1, by go_num, by omega, fun j y hj hy => ?_, HBr.out.drew⟩
            by_cases e : j = n
            · subst e
              have := HX.out.symm.trans hy
              cases this
              exact HT.out
            · exact HF.out j y (by omega) hy
          case measure => simp [intOf]; omega
      · have HT : Hid ((decide (o = some x.o) && decide (k = x.k)) = false) := by show _ = false; simp [h1]
        rw [decide_eq_false h1] at hq
        clear h1
        go_wp2
        go_region
        go_wp2
        go_roundw
        case rel =>
          refine ⟨n + 1, by go_num, by omega, fun j y hj hy => ?_, HBr.out.drew⟩
          by_cases e : j = n
          · subst e
            have := HX.out.symm.trans hy
            cases this
            exact HT.out
          · exact HF.out j y (by omega) hy
        case measure => simp [intOf]; omega
    · obtain rfl : n = l.length := by omega
      have HB1 := Hid.mk hb1
      clear hb1
      go_wp2
      go_ret
      refine ⟨ret_i64 ?_, HB1.out⟩
      unfold idxW
      rw [idxF_miss (fun j y hy => HF.out j y (List.getElem?_eq_some_iff.1 hy).1 hy)]

set_option maxHeartbeats 2000000 in
set_option maxRecDepth 100000 in
theorem wContains_any {v : Value} {l : List Wl} (o : Option Nat) (k : Int) {w : World} (hv : w.ownsRow 0 91 2 v l.length (flatWl l)) (hl : l.length < 90000) (hO : ∀ x, x ∈ l → Opn w x.o) (ho : ∀ b, o = some b → Opn w b) :
    Calls Tryz.prog 105 #[v, .agg #[ptrV o, .int .i64 k]] w fun e w' => e = .returned (.bool (l.any fun x => decide (o = some x.o) && decide (k = x.k))) ∧ Below w.heap.size w w' := by
  have hb : Below w.heap.size w (w.alloc (.cells #[ptrV o, .int .i64 k] 91)) := (Below.refl _ _).alloc (Nat.le_refl _) _
  have HC := Hid.mk (wIndex_any o k (own_below hv hb) hl (fun x hx => (hO x hx).below hb) (fun b e => (ho b e).below hb))
  have HB := Hid.mk hb
  have HE := Hid.mk (idxF_any l (fun x => decide (o = some x.o) && decide (k = x.k)))
  rw [← HE.out]
  change Hid (Calls _ _ _ _ fun e w' => e = .returned (.int .i64 (idxF l fun x => decide (o = some x.o) && decide (k = x.k))) ∧ _) at HC
  generalize (idxF l fun x => decide (o = some x.o) && decide (k = x.k)) = I at *
  clear hv hO ho hb
  unfold ptrV at *
  generalize o.map (fun b => (⟨b, 0, none⟩ : Addr)) = A at *
  go_enter Tryz.func105, Tryz.ntmps105
  go_wp2_with (go_at_call 115; refine HC.out.mono ?_; rintro e w1 ⟨rfl, hb1⟩; have HB1 := Hid.mk hb1; clear hb1)
  go_ret
  exact ⟨rfl, HB.out.trans (HB1.out.mono (by simp))⟩

set_option maxHeartbeats 1000000 in
set_option maxRecDepth 100000 in
theorem wSet1_any (x o B : Nat) (W : World) (hc : W.cell? ⟨B, 0, none⟩ = some (.pointer (some ⟨o, 0, none⟩))) (hx : Opn W x) (ho : Opn W o) :
    Calls Tryz.prog 106 (#[] ++ #[.pointer (some ⟨x, 0, none⟩)] ++ #[.pointer (some ⟨B, 0, none⟩)]) W fun e w' => e = .returned (.bool (decide (x ≠ o))) ∧ Below W.heap.size W w' := by
  have hq := run_neq_opn (w := W) (o := some x) (o' := some o) (fun b e => by cases e; exact hx) (fun b e => by cases e; exact ho)
  simp only [ptrV, Option.map_some] at hq
  have HE : Hid (decide (some x ≠ some o) = decide (x ≠ o)) := decide_eq_decide.2 (not_congr (by simp))
  rw [HE.out] at hq
  generalize decide (x ≠ o) = d at *
  clear hx ho HE
  go_enter Tryz.func106, Tryz.ntmps106
  go_wp2
  go_ret
  exact ⟨rfl, Below.refl _ _⟩

theorem any_lock (l : List Wl) (o : Nat) (k : Int) : (l.any fun x => decide (some o = some x.o) && decide (k = x.k)) = decide ((⟨o, k⟩ : Wl) ∈ l) := by
  rw [Bool.eq_iff_iff, List.any_eq_true, decide_eq_true_eq]
  constructor
  · rintro ⟨x, hx, h⟩
    simp only [Option.some.injEq, Bool.and_eq_true, decide_eq_true_eq] at h
    obtain ⟨h1, h2⟩ := h
    cases x
    simp only at h1 h2
    subst h1 h2
    exact hx
  · exact fun h => ⟨_, h, by simp⟩

set_option maxHeartbeats 4000000 in
set_option maxRecDepth 100000 in
theorem wSet_any {v : Value} {l : List Wl} (o : Nat) (k : Int) {w : World} (hv : w.ownsRow 0 91 2 v l.length (flatWl l)) (hl : l.length < 80000) (hO : ∀ x, x ∈ l → Opn w x.o) (ho : Opn w o) :
    Calls Tryz.prog 84 #[v, .agg #[.pointer (some ⟨o, 0, none⟩), .int .i64 k]] w fun e w' => ∃ v', e = .returned v' ∧ w'.ownsRow 0 91 2 v' (setW l o k).length (flatWl (setW l o k)) ∧ (∀ b, v'.ownBlock = some b → v.ownBlock = some b ∨ w.heap.size ≤ b) ∧ Below w.heap.size w w' := by
  have hb : Below w.heap.size w (w.alloc (.cells #[.pointer (some ⟨o, 0, none⟩), .int .i64 k] 91)) := (Below.refl _ _).alloc (Nat.le_refl _) _
  have HC := Hid.mk (wContains_any (some o) k (own_below hv hb) (by omega) (fun x hx => (hO x hx).below hb) (fun b e => by cases e; exact ho.below hb))
  rw [any_lock] at HC
  simp only [ptrV, Option.map_some] at HC
  have HB := Hid.mk hb
  have HV := Hid.mk hv
  have HO := Hid.mk hO
  have Ho := Hid.mk ho
  have HK := Hid.mk (fun (W : World) (hW : Below (w.heap.size + 1) (w.alloc (.cells #[.pointer (some ⟨o, 0, none⟩), .int .i64 k] 91)) W) =>
    have hWw : Below w.heap.size w W := hb.trans (hW.mono (Nat.le_succ _))
    Keep_any (v := v) (l := l) (fun x => decide (x ≠ o)) (w := W) 106 #[] #[.pointer (some ⟨w.heap.size, 0, none⟩)] (by intro args w; simp [go_sem]) (own_below hv hWw) (by omega)
      (fun W2 x hx hW2 => by
        have hz := hW.size
        simp at hz
        exact wSet1_any x.o o w.heap.size W2 ((hW2.cell (p := ⟨w.heap.size, 0, none⟩) (by show w.heap.size < W.heap.size; omega)).trans ((hW.cell (p := ⟨w.heap.size, 0, none⟩) (Nat.lt_succ_self _)).trans (by simp))) (((hO x hx).below hWw).below hW2) ((ho.below hWw).below hW2)))
  by_cases hm : (⟨o, k⟩ : Wl) ∈ l
  · have HM := Hid.mk hm
    have hd : decide ((⟨o, k⟩ : Wl) ∈ l) = true := by simpa using hm
    rw [hd] at HC
    clear hm hd hb hv hO ho HK
    go_enter Tryz.func84, Tryz.ntmps84
    go_wp2_with (go_at_call 105; refine HC.out.mono ?_; rintro e w1 ⟨rfl, hb1⟩; have HB1 := Hid.mk hb1; clear hb1)
    go_ret
    have hbw := HB.out.trans (HB1.out.mono (by simp))
    refine ⟨_, rfl, ?_, fun b e => Or.inl e, hbw⟩
    unfold setW
    rw [if_pos HM.out]
    exact own_below HV.out hbw
  · have HM := Hid.mk hm
    have hd : decide ((⟨o, k⟩ : Wl) ∈ l) = false := by simpa using hm
    rw [hd] at HC
    clear hm hd hb hv hO ho
    have hln : (l.filter fun x => decide (x.o ≠ o)).length ≤ l.length := List.length_filter_le _ _
    by_cases hk : k = 0
    · have HZ := Hid.mk hk
      have hkb : (k == 0) = true := by simpa using hk
      clear hk
      go_enter Tryz.func84, Tryz.ntmps84
      go_wp2_with (first
        | (go_at_call 105; refine HC.out.mono ?_; rintro e w1 ⟨rfl, hb1⟩; have hz1 := hb1.size; simp at hz1; have e1 : w1.cell? ⟨w.heap.size, 1, none⟩ = some (.int .i64 k) := ((bcells hb1).1 _ _ (by simp)).trans (by simp); have HB1 := Hid.mk hb1; clear hb1)
        | (go_at_call 91; refine (HK.out _ (HB1.out.mono (by simp))).mono ?_; rintro e w2 ⟨v2, rfl, ho2, hb2⟩; have hz2 := hb2.size; have e2 : w2.cell? ⟨w.heap.size, 1, none⟩ = some (.int .i64 k) := ((bcells hb2).1 _ _ (by omega)).trans e1; have HO2 := Hid.mk ho2; have HB2 := Hid.mk hb2; clear ho2 hb2))
      go_ret
      refine ⟨_, rfl, ?_, fun b e => Or.inr ?_, (HB.out.trans (HB1.out.mono (by simp))).trans (HB2.out.mono (by omega))⟩
      · unfold setW
        rw [if_neg HM.out, if_pos HZ.out, List.append_nil]
        exact own_mono HO2.out (Nat.zero_le _)
      · have := (HO2.out.lt b e).1
        omega
    · have HZ := Hid.mk hk
      have hkb : (k == 0) = false := by simpa using hk
      clear hk
      go_enter Tryz.func84, Tryz.ntmps84
      go_wp2_with (first
        | (go_at_call 105; refine HC.out.mono ?_; rintro e w1 ⟨rfl, hb1⟩; have hz1 := hb1.size; simp at hz1; have e0 : w1.cell? ⟨w.heap.size, 0, none⟩ = some (.pointer (some ⟨o, 0, none⟩)) := ((bcells hb1).1 _ _ (by simp)).trans (by simp); have e1 : w1.cell? ⟨w.heap.size, 1, none⟩ = some (.int .i64 k) := ((bcells hb1).1 _ _ (by simp)).trans (by simp); have HB1 := Hid.mk hb1; clear hb1)
        | (go_at_call 91; refine (HK.out _ (HB1.out.mono (by simp))).mono ?_; rintro e w2 ⟨v2, rfl, ho2, hb2⟩; have hz2 := hb2.size; have d0 : w2.cell? ⟨w.heap.size, 0, none⟩ = some (.pointer (some ⟨o, 0, none⟩)) := ((bcells hb2).1 _ _ (by omega)).trans e0; have d1 : w2.cell? ⟨w.heap.size, 1, none⟩ = some (.int .i64 k) := ((bcells hb2).1 _ _ (by omega)).trans e1; have HO2 := Hid.mk ho2; have HB2 := Hid.mk hb2; clear ho2 hb2)
        | (at_builtin; refine wpList_snoc rfl _ _ _ rfl Tryz.underlying67 Tryz.infoWlock rfl (by decide) (by decide) rfl HO2.out (by omega) (by omega) (cs := #[.pointer (some ⟨o, 0, none⟩), .int .i64 k]) rfl (by simp) rfl (by simp [Value.oneCell']) ?_; intro v3 w3 ho3 hb3 hz3 hold3; have HO3 := Hid.mk ho3; have HB3 := Hid.mk hb3; clear ho3 hb3 hold3))
      go_ret
      refine ⟨_, rfl, ?_, fun b e => Or.inr ?_, ((HB.out.trans (HB1.out.mono (by simp))).trans (HB2.out.mono (by omega))).trans (HB3.out.mono (by omega))⟩
      · unfold setW
        rw [if_neg HM.out, if_neg HZ.out, List.length_append, flatWl_app]
        exact own_mono HO3.out (Nat.zero_le _)
      · have := (HO3.out.lt b e).1
        omega
end Go.Proofs.YtaicdjhblbobbabGreat
