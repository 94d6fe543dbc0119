/- Lists of numbers that the statements make for themselves, beside a Kernel. -/
import Derived.Test.YtaicdjhblbobbabGreatGKeep
import Derived.Test.YtaicdjhblbobbabGreatGApp
import Derived.KernelRfl
namespace Go.Proofs.YtaicdjhblbobbabGreat
open Go.RowKit

theorem Tryz.infoIntK : (Tryz.prog.info? 3).map (fun i => (i.zero, i.size, i.bytes)) = some (some (.int .i64 0), 1, 8) := by kernel_rfl
theorem info_partsK {t : TypeId} {z : Value} {s b : Nat} (h : (Tryz.prog.info? t).map (fun i => (i.zero, i.size, i.bytes)) = some (some z, s, b)) : ∃ i, Tryz.prog.info? t = some i ∧ i.zero = some z ∧ i.size = s ∧ i.bytes = b := by
  cases e : Tryz.prog.info? t with
  | none => rw [e] at h; cases h
  | some i =>
    rw [e] at h
    simp at h
    exact ⟨i, rfl, h.1, h.2.1, h.2.2⟩
theorem i64_wrap (x : Int) : i64 (wrap64 x) := by unfold i64 wrap64; omega
/-- A list of numbers of the statement's own. -/
structure LL (w0 w : World) (P : Nat → Prop) (v : Value) (l : List Int) : Prop where
  own : w.ownsRow w0.heap.size 3 1 v l.length (ints l)
  far : ∀ b, v.ownBlock = some b → ¬ P b
theorem LL.nil (w0 w : World) (P : Nat → Prop) : LL w0 w P (.slice none 0 0) [] := ⟨World.ownsRow_nil _ _ _ _, fun b h => by cases h⟩
theorem LL.blk {w0 w w' : World} {P P' : Nat → Prop} {v : Value} {l : List Int} (h : LL w0 w P v l) (hb : ∀ b, v.ownBlock = some b → w'.heap[b]? = w.heap[b]? ∧ ¬ P' b) : LL w0 w' P' v l := by
  refine ⟨⟨h.own.1, ?_⟩, fun b e => (hb b e).2⟩
  rcases h.own.2 with hv | ⟨g, cap, cur, hv, hg, hblk, hr⟩
  · exact Or.inl hv
  · subst hv
    exact Or.inr ⟨g, cap, cur, rfl, hg, by rw [(hb g rfl).1]; exact hblk, hr⟩
theorem LL.upd {w0 w w' : World} {P P' : Nat → Prop} {v : Value} {l : List Int} (h : LL w0 w P v l) (hu : Upd P P' w w') : LL w0 w' P' v l :=
  h.blk fun b e => ⟨hu.block b (h.own.lt b e).2 (h.far b e), hu.still (h.own.lt b e).2 (h.far b e)⟩
theorem LL.below {w0 w w' : World} {P : Nat → Prop} {v : Value} {l : List Int} (h : LL w0 w P v l) (hb : Below w.heap.size w w') : LL w0 w' P v l :=
  h.blk fun b e => ⟨hb.block b (h.own.lt b e).2, h.far b e⟩
theorem LL.drew {w0 w : World} {P : Nat → Prop} {v : Value} {l : List Int} (h : LL w0 w P v l) (n : Nat) : LL w0 (w.drewN n) P v l := h.blk fun b e => ⟨rfl, h.far b e⟩
theorem LL.slice {w0 w : World} {P : Nat → Prop} {v : Value} {l : List Int} (h : LL w0 w P v l) : ∃ a cp, v = .slice a l.length cp ∧ IRow w a l ∧ Mine P w a := by
  rcases h.own.2 with ⟨hv, h0⟩ | ⟨g, cap, cur, hv, _⟩
  · have : l = [] := List.eq_nil_of_length_eq_zero h0
    subst this
    exact ⟨none, 0, hv, IRow.nil _ _, Mine.nil _ _⟩
  · subst hv
    refine ⟨_, _, rfl, IRow.own h.own, fun x hx => ?_⟩
    cases hx
    exact ⟨(h.own.lt g rfl).2, h.far g rfl⟩
theorem LL.block {w0 w : World} {P : Nat → Prop} {v : Value} {l : List Int} (h : LL w0 w P v l) (hl : 0 < l.length) : ∃ g cp, v = .slice (some ⟨g, 0, none⟩) l.length cp ∧ l.length ≤ cp ∧ IRow w (some ⟨g, 0, none⟩) l ∧ Mine P w (some ⟨g, 0, none⟩) := by
  obtain ⟨a, cp, rfl, h1, h2⟩ := h.slice
  rcases h.own.2 with ⟨hv, h0⟩ | ⟨g, cap, cur, hv, _, _, hn, _⟩
  · omega
  · cases hv
    exact ⟨g, _, rfl, hn, h1, h2⟩
/-- A part of a list. -/
theorem IRow.part {w : World} {b o : Nat} {l m : List Int} {k : Nat} (h : IRow w (some ⟨b, o, none⟩) l) (hm : ∀ i x, m[i]? = some x → l[k + i]? = some x) : IRow w (some ⟨b, o + k, none⟩) m := fun i x hx => by
  obtain ⟨b', o', e, h1, h2⟩ := h (k + i) x (hm i x hx)
  cases e
  exact ⟨_, _, rfl, h1, by rw [Nat.add_assoc]; exact h2⟩
theorem Mine.move {P : Nat → Prop} {w : World} {b o o' : Nat} (h : Mine P w (some ⟨b, o, none⟩)) : Mine P w (some ⟨b, o', none⟩) := fun x hx => by cases hx; exact h ⟨b, o, none⟩ rfl
/-- A list that was written down. -/
theorem LL.lit {w0 w : World} {P : Nat → Prop} (l : List Int) (hb : w0.heap.size ≤ w.heap.size) (hP : ∀ b, P b → b < w.heap.size) (hl : l.length ≤ 1000) : LL w0 (w.alloc (.cells (ints l).toArray 3)) P (.slice (some ⟨w.heap.size, 0, none⟩) l.length l.length) l := by
  refine ⟨⟨by simp [ints], Or.inr ⟨w.heap.size, l.length, (ints l).toArray, rfl, hb, heap_alloc_new w _, Nat.le_refl _, by unfold maxLen; omega, by simp [ints], ?_⟩⟩, fun b e hp => ?_⟩
  · rw [List.take_of_length_le (by simp [ints])]
  · cases e
    exact Nat.lt_irrefl _ (hP _ hp)
/-- One number more. -/
theorem wpList_app1 {ops : Array Oper} {rest : List Oper} {o : Oper} {a : Act} {Q : Exit → Act → World → Prop} (hgd : o.guard = none) (s x : Operand)
    (ho : o.op = .call { callee := .builtin .append, args := #[s, x], argTypes := #[22, 22] }) (w0 w : World) (P : Nat → Prop) (l : List Int) (v : Value) (hs : a.eval s = v) (hown : LL w0 w P v l)
    (y : Int) (hx : a.eval x = .slice (some ⟨w.heap.size, 0, none⟩) 1 1) (hlen : l.length ≤ 1000) (hb0 : w0.heap.size ≤ w.heap.size) (hP : ∀ b, P b → b < w.heap.size)
    (h : ∀ v' w', LL w0 w' P v' (l ++ [y]) → (∀ b, P b → w'.heap[b]? = w.heap[b]?) → w.heap.size ≤ w'.heap.size → Below w0.heap.size w w' → (∀ b, b < w.heap.size → v.ownBlock ≠ some b → w'.heap[b]? = w.heap[b]?) → (∀ b, v'.ownBlock = some b → v.ownBlock = some b ∨ w.heap.size ≤ b) → wpList Tryz.prog ops Q rest (a.put o.dst v') w') :
    wpList Tryz.prog ops Q (o :: rest) a (w.alloc (.cells #[.int .i64 y] 3)) := by
  obtain ⟨i0, hi0, hz0, hz1, hz2⟩ := info_partsK Tryz.infoIntK
  have hcells : ∀ j u, ([.int .i64 y] : List Value)[j]? = some u → (w.alloc (.cells #[.int .i64 y] 3)).cell? ((⟨w.heap.size, 0, none⟩ : Addr).add j) = some u := by
    intro j u hu
    cases j with
    | zero =>
      simp at hu
      subst hu
      have : (⟨w.heap.size, 0, none⟩ : Addr).add 0 = ⟨w.heap.size, 0, none⟩ := by unfold Addr.add; split <;> simp_all
      rw [this, cell_new]
      rfl
    | succ j => simp at hu
  obtain ⟨v', w', hr, hown', hgr, hblk⟩ := append_run (P := Tryz.prog) (w.alloc (.cells #[.int .i64 y] 3)) w0.heap.size 22 o.type 3 i0 _ 1 8 Tryz.underlying22 hi0 hz0 hz1 hz2 rfl (by decide) v l.length (ints l)
    (hown.below ((Below.refl _ _).alloc (Nat.le_refl _) _)).own ⟨w.heap.size, 0, none⟩ 1 1 [.int .i64 y] rfl hcells (by simp [Value.oneCell']) (by unfold maxLen; omega) (by omega) (by simp; omega)
  refine Lib.wpList_append_run _ hgd s x 22 22 ho v _ hs hx v' w' hr ?_
  have hsz : w.heap.size ≤ w'.heap.size := by have := hgr.size; simp at this; omega
  have hold : ∀ b, b < w.heap.size → v.ownBlock ≠ some b → w'.heap[b]? = w.heap[b]? := fun b hb hne => by
    rw [hgr.block b (by simp; omega) (fun e => hne e.symm)]
    exact ((Below.refl w.heap.size w).alloc (Nat.le_refl _) _).block b hb
  refine h v' w' ⟨?_, ?_⟩ ?_ hsz ?_ hold (fun b hb => (hblk b hb).imp id (fun h1 => by simp at h1; omega))
  · have e : (ints (l ++ [y])) = ints l ++ [.int .i64 y] := by simp [ints]
    rw [e, List.length_append]
    exact hown'
  · intro b hb hp
    rcases hblk b hb with h1 | h1
    · exact hown.far b h1 hp
    · have := hP b hp
      simp at h1
      omega
  · intro b hp
    exact hold b (hP b hp) (fun e => hown.far b e hp)
  · exact ⟨by rw [hgr.os]; rfl, by rw [hgr.tape]; rfl, by rw [hgr.output]; rfl, hsz, fun k hk => hold k (by omega) (fun e => by have := (hown.own.lt k e).1; omega)⟩
theorem KW.grown {rep : World → Nat → (Nat → Prop) → DS → Prop} (K : Face rep) {w0 w w' : World} {kb : Nat} {P : Nat → Prop} {s : DS} (h : KW rep w0 w kb P s) (hp : ∀ b, P b → w'.heap[b]? = w.heap[b]?) (hs : w.heap.size ≤ w'.heap.size) (hb : Below w0.heap.size w w') : KW rep w0 w' kb P s :=
  ⟨K.frame h.r hs hp, h.b.trans hb, h.p⟩
end Go.Proofs.YtaicdjhblbobbabGreat

/- Over any program that answers as the model: play and state of package holdskeep. -/
namespace Go.Proofs.YtaicdjhblbobbabGreat
open Go.RowKit

section
variable {rep : World → Nat → (Nat → Prop) → DS → Prop} (K : Face rep) {w0 w : World} {kb : Nat} {P : Nat → Prop} {s : DS}
include K
/-- Any call, on any state. -/
theorem KW.any (h : KW rep w0 w kb P s) (x : Cl) (hx : x.rng) :
    Calls Tryz.prog x.fn (x.args kb) w fun e w' => ∃ P' a cp, e = .returned (rpV (s.step x).2 (.slice a (s.step x).2.d.length cp)) ∧ Told w w' P' 78 2 (.slice a (s.step x).2.d.length cp) (s.step x).2.d.length (flatD (s.step x).2.d) ∧ KW rep w0 w' kb P' (s.step x).1 ∧ Upd P P' w w' := by
  refine (K.step x hx h.r).mono ?_
  rintro e w' ⟨P', v, rfl, ht, hr, hu⟩
  obtain ⟨a, cp, rfl⟩ := ht.slice
  exact ⟨P', a, cp, rfl, ht, h.upd K hr hu, hu⟩
/-- Some call, and some state behind it. -/
theorem KW.some (h : KW rep w0 w kb P s) (x : Cl) (hx : x.rng) :
    Calls Tryz.prog x.fn (x.args kb) w fun e w' => ∃ P' s' v, e = .returned v ∧ KW rep w0 w' kb P' s' ∧ Upd P P' w w' := by
  refine (h.any K x hx).mono ?_
  rintro e w' ⟨P', a, cp, rfl, _, hk, hu⟩
  exact ⟨P', _, _, rfl, hk, hu⟩

set_option maxHeartbeats 16000000 in
set_option maxRecDepth 100000 in
theorem playF (h : KW rep w0 w kb P s) (r0 r1 r2 r3 r4 : Int) (b o cp : Nat) (h0 : i64 r0) (h1 : i64 r1) (h2 : i64 r2) (h3 : i64 r3) (h4 : i64 r4) (hr : IRow w (some ⟨b, o, none⟩) [r0, r1, r2, r3, r4]) :
    Calls Tryz.prog 11 #[kptr kb, .slice (some ⟨b, o, none⟩) 5 cp] w fun e w' => ∃ P' s', e = .returned (.tuple #[]) ∧ KW rep w0 w' kb P' s' ∧ Upd P P' w w' := by
  obtain ⟨_, _, e0, _, c0⟩ := hr 0 r0 rfl
  cases e0
  obtain ⟨_, _, e0, _, c1⟩ := hr 1 r1 rfl
  cases e0
  obtain ⟨_, _, e0, _, c2⟩ := hr 2 r2 rfl
  cases e0
  obtain ⟨_, _, e0, _, c3⟩ := hr 3 r3 rfl
  cases e0
  obtain ⟨_, _, e0, _, c4⟩ := hr 4 r4 rfl
  cases e0
  simp only [Nat.add_zero] at c0
  obtain ⟨q, hq⟩ : ∃ q : Nat, pickI r0 16 = q := ⟨(pickI r0 16).toNat, by have := pickI_bd r0 16 (by omega); omega⟩
  have hq1 : q < 16 := by have := pickI_bd r0 16 (by omega); omega
  have HP0 := Hid.mk (pick_eq r0 16 · h0 (by omega) (by omega))
  have HP1 := Hid.mk (pick_eq r1 6 · h1 (by omega) (by omega))
  have HP2 := Hid.mk (pick_eq r2 3 · h2 (by omega) (by omega))
  have HP3 := Hid.mk (pick_eq r3 2 · h3 (by omega) (by omega))
  have HP3' := Hid.mk (pick_eq r3 3 · h3 (by omega) (by omega))
  have HP4 := Hid.mk (pick_eq r4 16 · h4 (by omega) (by omega))
  have HP5 := Hid.mk (pick_eq (wrap64 (r4.tdiv 16)) 5 · (i64_wrap _) (by omega) (by omega))
  rw [hq] at HP0
  have p1 := pickI_bd r1 6 (by omega)
  have p2 := pickI_bd r2 3 (by omega)
  have p3 := pickI_bd r3 2 (by omega)
  have p3' := pickI_bd r3 3 (by omega)
  have p4 := pickI_bd r4 16 (by omega)
  have p5 := pickI_bd (wrap64 (r4.tdiv 16)) 5 (by omega)
  generalize pickI r1 6 = p at *
  generalize pickI r2 3 = a at *
  generalize pickI r3 2 = b0 at *
  generalize pickI r3 3 = b3 at *
  generalize pickI r4 16 = fr at *
  have HK := Hid.mk h
  clear h hr h0 h1 h2 h3 h4 hq
  go_enter Tryz.func11, Tryz.ntmps11
  go_wp2_with fail
  refine (HP1.out _).mono ?_
  rintro e w' ⟨rfl, hw⟩
  subst w'
  go_wp2_with fail
  refine (HP2.out _).mono ?_
  rintro e w' ⟨rfl, hw⟩
  subst w'
  go_wp2_with fail
  refine (HP3.out _).mono ?_
  rintro e w' ⟨rfl, hw⟩
  subst w'
  go_wp2_with fail
  refine (HP4.out _).mono ?_
  rintro e w' ⟨rfl, hw⟩
  subst w'
  go_wp2_with fail
  refine (HP5.out _).mono ?_
  rintro e w' ⟨rfl, hw⟩
  subst w'
  generalize pickI (wrap64 (r4.tdiv 16)) 5 = ln at *
  go_wp2_with fail
  refine (HP0.out _).mono ?_
  rintro e w' ⟨rfl, hw⟩
  subst w'
  clear HP0 HP1 HP2 HP3 HP4 HP5
  obtain ⟨b', hb'⟩ : ∃ b', b' = 1 + b0 := ⟨_, rfl⟩
  rw [← hb']
  have HB := Hid.mk (show i64 b' by unfold i64; omega)
  have HBS := Hid.mk (And.intro p1 (And.intro p2 (And.intro p3' (And.intro p4 p5))))
  clear hb' p1 p2 p3 p3' p4 p5
  have : q = 0 ∨ q = 1 ∨ q = 2 ∨ q = 3 ∨ q = 4 ∨ q = 5 ∨ q = 6 ∨ q = 7 ∨ q = 8 ∨ q = 9 ∨ q = 10 ∨ q = 11 ∨ q = 12 ∨ q = 13 ∨ q = 14 ∨ q = 15 := by omega
  clear hq1
  rcases this with rfl | rfl | rfl | rfl | rfl | rfl | rfl | rfl | rfl | rfl | rfl | rfl | rfl | rfl | rfl | rfl
  · go_wp2_with fail
    refine (HK.out.some K (.fork p) (by have := HBS.out; simp [Cl.rng, i64]; omega)).mono ?_
    rintro e w2 ⟨P2, s2, v2, rfl, hk2, hu2⟩
    have HK2 := Hid.mk hk2
    have HU2 := Hid.mk hu2
    clear hk2 hu2
    go_wp2
    go_end0
    exact ⟨P2, s2, rfl, HK2.out, HU2.out⟩
  · go_wp2_with fail
    refine (HK.out.some K (.kill p) (by have := HBS.out; simp [Cl.rng, i64]; omega)).mono ?_
    rintro e w2 ⟨P2, s2, v2, rfl, hk2, hu2⟩
    have HK2 := Hid.mk hk2
    have HU2 := Hid.mk hu2
    clear hk2 hu2
    go_wp2
    go_end0
    exact ⟨P2, s2, rfl, HK2.out, HU2.out⟩
  · go_wp2_with fail
    refine (HK.out.some K (.opn p a) (by have := HBS.out; simp [Cl.rng, i64]; omega)).mono ?_
    rintro e w2 ⟨P2, s2, v2, rfl, hk2, hu2⟩
    have HK2 := Hid.mk hk2
    have HU2 := Hid.mk hu2
    clear hk2 hu2
    go_wp2
    go_end0
    exact ⟨P2, s2, rfl, HK2.out, HU2.out⟩
  · go_wp2_with fail
    refine (HK.out.some K (.opn p a) (by have := HBS.out; simp [Cl.rng, i64]; omega)).mono ?_
    rintro e w2 ⟨P2, s2, v2, rfl, hk2, hu2⟩
    have HK2 := Hid.mk hk2
    have HU2 := Hid.mk hu2
    clear hk2 hu2
    go_wp2
    go_end0
    exact ⟨P2, s2, rfl, HK2.out, HU2.out⟩
  · go_wp2_with fail
    refine (HK.out.some K (.dup p a) (by have := HBS.out; simp [Cl.rng, i64]; omega)).mono ?_
    rintro e w2 ⟨P2, s2, v2, rfl, hk2, hu2⟩
    have HK2 := Hid.mk hk2
    have HU2 := Hid.mk hu2
    clear hk2 hu2
    go_wp2
    go_end0
    exact ⟨P2, s2, rfl, HK2.out, HU2.out⟩
  · go_wp2_with fail
    refine (HK.out.some K (.close p a) (by have := HBS.out; simp [Cl.rng, i64]; omega)).mono ?_
    rintro e w2 ⟨P2, s2, v2, rfl, hk2, hu2⟩
    have HK2 := Hid.mk hk2
    have HU2 := Hid.mk hu2
    clear hk2 hu2
    go_wp2
    go_end0
    exact ⟨P2, s2, rfl, HK2.out, HU2.out⟩
  · go_wp2_with fail
    refine (HK.out.some K (.lock p a 0 fr ln false) (by have := HBS.out; simp [Cl.rng, i64]; omega)).mono ?_
    rintro e w2 ⟨P2, s2, v2, rfl, hk2, hu2⟩
    have HK2 := Hid.mk hk2
    have HU2 := Hid.mk hu2
    clear hk2 hu2
    go_wp2
    go_end0
    exact ⟨P2, s2, rfl, HK2.out, HU2.out⟩
  · go_wp2_with fail
    refine (HK.out.some K (.lock p a 0 fr ln false) (by have := HBS.out; simp [Cl.rng, i64]; omega)).mono ?_
    rintro e w2 ⟨P2, s2, v2, rfl, hk2, hu2⟩
    have HK2 := Hid.mk hk2
    have HU2 := Hid.mk hu2
    clear hk2 hu2
    go_wp2
    go_end0
    exact ⟨P2, s2, rfl, HK2.out, HU2.out⟩
  · go_wp2_with fail
    refine (HK.out.some K (.lock p a b' fr ln false) (by have := HBS.out; have := HB.out; simp [Cl.rng, i64] at this ⊢; omega)).mono ?_
    rintro e w2 ⟨P2, s2, v2, rfl, hk2, hu2⟩
    have HK2 := Hid.mk hk2
    have HU2 := Hid.mk hu2
    clear hk2 hu2
    go_wp2
    go_end0
    exact ⟨P2, s2, rfl, HK2.out, HU2.out⟩
  · go_wp2_with fail
    refine (HP3'.out _).mono ?_
    rintro e w' ⟨rfl, hw⟩
    subst w'
    go_wp2_with fail
    refine (HK.out.some K (.whole p a b3 false) (by have := HBS.out; simp [Cl.rng, i64]; omega)).mono ?_
    rintro e w2 ⟨P2, s2, v2, rfl, hk2, hu2⟩
    have HK2 := Hid.mk hk2
    have HU2 := Hid.mk hu2
    clear hk2 hu2
    go_wp2
    go_end0
    exact ⟨P2, s2, rfl, HK2.out, HU2.out⟩
  · go_wp2_with fail
    refine (HK.out.some K (.whole p a b' true) (by have := HBS.out; have := HB.out; simp [Cl.rng, i64] at this ⊢; omega)).mono ?_
    rintro e w2 ⟨P2, s2, v2, rfl, hk2, hu2⟩
    have HK2 := Hid.mk hk2
    have HU2 := Hid.mk hu2
    clear hk2 hu2
    go_wp2
    go_end0
    exact ⟨P2, s2, rfl, HK2.out, HU2.out⟩
  · go_wp2_with fail
    refine (HK.out.some K (.whole p a b' true) (by have := HBS.out; have := HB.out; simp [Cl.rng, i64] at this ⊢; omega)).mono ?_
    rintro e w2 ⟨P2, s2, v2, rfl, hk2, hu2⟩
    have HK2 := Hid.mk hk2
    have HU2 := Hid.mk hu2
    clear hk2 hu2
    go_wp2
    go_end0
    exact ⟨P2, s2, rfl, HK2.out, HU2.out⟩
  · go_wp2_with fail
    refine (HK.out.some K (.lock p a b' fr ln true) (by have := HBS.out; have := HB.out; simp [Cl.rng, i64] at this ⊢; omega)).mono ?_
    rintro e w2 ⟨P2, s2, v2, rfl, hk2, hu2⟩
    have HK2 := Hid.mk hk2
    have HU2 := Hid.mk hu2
    clear hk2 hu2
    go_wp2
    go_end0
    exact ⟨P2, s2, rfl, HK2.out, HU2.out⟩
  · go_wp2_with fail
    refine (HK.out.some K (.lock p a b' fr ln true) (by have := HBS.out; have := HB.out; simp [Cl.rng, i64] at this ⊢; omega)).mono ?_
    rintro e w2 ⟨P2, s2, v2, rfl, hk2, hu2⟩
    have HK2 := Hid.mk hk2
    have HU2 := Hid.mk hu2
    clear hk2 hu2
    go_wp2
    go_end0
    exact ⟨P2, s2, rfl, HK2.out, HU2.out⟩
  · go_wp2_with fail
    refine (HK.out.some K (.lock p a b' fr ln true) (by have := HBS.out; have := HB.out; simp [Cl.rng, i64] at this ⊢; omega)).mono ?_
    rintro e w2 ⟨P2, s2, v2, rfl, hk2, hu2⟩
    have HK2 := Hid.mk hk2
    have HU2 := Hid.mk hu2
    clear hk2 hu2
    go_wp2
    go_end0
    exact ⟨P2, s2, rfl, HK2.out, HU2.out⟩
  · go_wp2_with fail
    refine (HK.out.some K (.lock p a b' fr ln true) (by have := HBS.out; have := HB.out; simp [Cl.rng, i64] at this ⊢; omega)).mono ?_
    rintro e w2 ⟨P2, s2, v2, rfl, hk2, hu2⟩
    have HK2 := Hid.mk hk2
    have HU2 := Hid.mk hu2
    clear hk2 hu2
    go_wp2
    go_end0
    exact ⟨P2, s2, rfl, HK2.out, HU2.out⟩

end
end Go.Proofs.YtaicdjhblbobbabGreat
