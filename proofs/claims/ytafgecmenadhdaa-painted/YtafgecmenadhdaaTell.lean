/- Contracts of the Kernel's test and tell (the guard is held), and of reply. -/
import Derived.Test.YtafgecmenadhdaaLock
namespace Go.Proofs.Ytafgecmenadhdaa
open Go.RowKit Go.Lib

set_option maxHeartbeats 2000000 in
set_option maxRecDepth 100000 in
theorem test_err {w : World} {kb tb mb : Nat} {g : Int} {s : KS} (h : KInv w kb tb mb g s) (p d k f l : Int) (he : readE s p d k f l 1 ≠ 0) :
    Calls Try.prog 23 #[.pointer (some ⟨kb, 0, none⟩), .int .i64 p, .int .i64 d, .int .i64 k, .int .i64 f, .int .i64 l] w fun e w' => e = .returned (.tuple #[.int .i64 0, .int .i64 (readE s p d k f l 1)]) ∧ Below w.heap.size w w' := by
  have HR := Hid.mk (read_err h p d k f l 1 he)
  generalize readE s p d k f l 1 = E at *
  have hE : (E != 0) = true := by simpa using he
  clear h he
  go_enter Try.func23, Try.ntmps23
  go_wp2_with (go_at_call 36; refine HR.out.mono ?_; rintro e w' ⟨rfl, hb⟩)
  go_ret2
  exact ⟨rfl, hb.alloc hb.size _⟩

set_option maxHeartbeats 4000000 in
set_option maxRecDepth 100000 in
theorem test_ok {w : World} {kb tb mb b : Nat} {g : Int} {s : KS} (h : KInv w kb tb mb g s) (p d k f l : Int) (hl : liveB s.L p = true) (hf : s.F p d = some b) (hk : kindB k = true) (hk1 : 1 ≤ k) (hs : badS f l = false) :
    Calls Try.prog 23 #[.pointer (some ⟨kb, 0, none⟩), .int .i64 p, .int .i64 d, .int .i64 k, .int .i64 f, .int .i64 l] w fun e w' => e = .returned (.tuple #[.int .i64 (biterR (s.R (s.O b).toNat) ⟨p, k, fromS f l, toS f l⟩), .int .i64 0]) ∧ Below w.heap.size w w' := by
  have HR := Hid.mk (read_ok h p d k f l 1 hl hf hk hk1 hs)
  have ho := h.ok.o p d b hf
  have hlen := h.ok.len (s.O b).toNat
  obtain ⟨i, hi⟩ : ∃ i : Nat, s.O b = (i : Int) := ⟨(s.O b).toNat, by omega⟩
  rw [hi] at HR hlen ho ⊢
  simp only [Int.toNat_natCast] at hlen ⊢
  have hi3 : i < 3 := by omega
  generalize hF : fromS f l = fr at *
  generalize hT : toS f l = to at *
  obtain ⟨v, hv, hrd⟩ := h.file i hi3
  have hlt := h.lt
  have hii : (i : Int) < 3 := by omega
  have hi0 : (0 : Int) ≤ (i : Int) := by omega
  have HB := Hid.mk (fun (W : World) (hW : Below w.heap.size w W) => Biter_any v (s.R i) p k fr to W (hrd.below hW) (by omega))
  clear h hl hf hk hs hrd hi hF hT ho hk1
  generalize biterR (s.R i) ⟨p, k, fr, to⟩ = B at *
  go_enter Try.func23, Try.ntmps23
  go_wp2_with (go_at_call 36; refine HR.out.mono ?_; rintro e w' ⟨rfl, hb⟩; have HW := Hid.mk hb; have hv' : w'.cell? ⟨kb, 3 + i, none⟩ = some v := ((bcell hb).1 _ _ hlt).trans hv; have hz := hb.size; clear hb)
  have hkw : kb < w'.heap.size := by omega
  go_region_held3 (fun u => u.cell? ⟨kb, 3 + i, none⟩ = some v ∧ u.cell? ⟨w'.heap.size, 0, none⟩ = some (.int .i64 p) ∧ u.cell? ⟨w'.heap.size, 1, none⟩ = some (.int .i64 k) ∧ u.cell? ⟨w'.heap.size, 2, none⟩ = some (.int .i64 fr) ∧ u.cell? ⟨w'.heap.size, 3, none⟩ = some (.int .i64 to)) (simp [go_sem, World.cell?_alloc_past, *])
    (first
      | (go_at_call 37; refine (HB.out _ ?_).mono ?_; exact (HW.out.alloc hz _).drew; rintro e w2 ⟨rfl, hb2⟩; have kk : w2.cell? ⟨kb, 3 + i, none⟩ = some v := ((bcell hb2).1 _ _ (by simp <;> omega)).trans ((World.cell?_alloc_past (w := w') _ kb (3 + i) hkw).trans hv'); have kb0 : w2.cell? ⟨w'.heap.size, 0, none⟩ = some (.int .i64 p) := ((bcell hb2).1 _ _ (by simp)).trans (by simp); have kb1 : w2.cell? ⟨w'.heap.size, 1, none⟩ = some (.int .i64 k) := ((bcell hb2).1 _ _ (by simp)).trans (by simp); have kb2 : w2.cell? ⟨w'.heap.size, 2, none⟩ = some (.int .i64 fr) := ((bcell hb2).1 _ _ (by simp)).trans (by simp); have kb3 : w2.cell? ⟨w'.heap.size, 3, none⟩ = some (.int .i64 to) := ((bcell hb2).1 _ _ (by simp)).trans (by simp); have H2 := Hid.mk hb2; have hz2 : w'.heap.size + 1 ≤ w2.heap.size := (by have := hb2.size; simpa using this); clear hb2))
  go_wp2
  go_ret2
  exact ⟨rfl, (HW.out.alloc hz _).drew.trans (H2.out.mono (by simp <;> omega))⟩

theorem Try.infoApiRun : (Try.prog.info? 38).map (fun i => (i.zero, i.size, i.bytes)) = some (some (.agg #[.int .i64 0, .int .i64 0, .int .i64 0, .int .i64 0]), 4, 32) := by kernel_rfl

set_option maxHeartbeats 4000000 in
set_option maxRecDepth 100000 in
theorem tell_ok {w : World} {kb tb mb : Nat} {g : Int} {s : KS} (h : KInv w kb tb mb g s) (i : Nat) (hi : i < 3) :
    Calls Try.prog 22 #[.pointer (some ⟨kb, 0, none⟩), .int .i64 i] w fun e w' => ∃ v', e = .returned v' ∧ w'.ownsRow w.heap.size 38 4 v' (s.R i).length (flat (s.R i)) ∧ Below w.heap.size w w' := by
  obtain ⟨i0, hi0, hz0, hz1, hz2⟩ := info_parts Try.infoApiRun
  obtain ⟨v, hv, hrd⟩ := h.file i hi
  have hlen := h.ok.len i
  have hlt := h.lt
  have hii : (i : Int) < 3 := by omega
  have hi00 : (0 : Int) ≤ (i : Int) := by omega
  generalize s.R i = l at *
  clear h
  have hform : ∃ a c, v = .slice a l.length c := by
    rcases hrd with ⟨h1, h2⟩ | ⟨b, cap, h1, _⟩
    · exact ⟨none, 0, by rw [h1, h2]; rfl⟩
    · exact ⟨_, _, h1⟩
  obtain ⟨a, c, rfl⟩ := hform
  have HR := Hid.mk hrd
  clear hrd
  go_enter Try.func22, Try.ntmps22
  go_wp2_with (at_make; refine wpList_make_own _ rfl _ _ 35 rfl w.heap.size 38 i0 _ 4 Try.underlying35 hi0 hz0 hz1 .i64 .i64 _ l.length rfl rfl rfl (by rw [hz2]; omega) (by unfold maxLen; omega) (Nat.le_refl _) ?_; intro w1 hown1 hgr1; have HO1 := Hid.mk hown1; have HB1 := Hid.mk ((Below.refl w.heap.size w).grown hgr1 (Nat.le_refl _) (fun k hk => by cases hk)); have hv1 : w1.cell? ⟨kb, 3 + i, none⟩ = some (.slice a l.length c) := (HB1.out.cell (p := ⟨kb, 3 + i, none⟩) hlt).trans hv; clear hown1 hgr1)
  go_loopw [5, 29] (fun s5 s29 wr => ∃ n : Nat, s29 = .int .i64 n ∧ n ≤ l.length ∧ Hid (wr.ownsRow w.heap.size 38 4 s5 n (flat (l.take n))) ∧ Hid (Below w.heap.size w wr)) (fun _ s29 _ => l.length - (intOf s29).toNat)
  case atStart => exact ⟨0, rfl, Nat.zero_le _, HO1.out, HB1.out⟩
  case round =>
    obtain ⟨n, rfl, hn, HO, HB⟩ := hrel
    by_cases hlt2 : n < l.length
    · obtain ⟨x, hx⟩ : ∃ x, l[n]? = some x := ⟨_, List.getElem?_eq_getElem hlt2⟩
      have HF := Hid.mk (show flat (l.take (n + 1)) = flat (l.take n) ++ x.cells by rw [List.take_add_one, hx]; simp [flat])
      rcases HR.out with ⟨_, h2⟩ | ⟨gb, cap, h1, hgb, hrow⟩
      · rw [h2] at hlt2; simp at hlt2
      obtain ⟨rfl, rfl⟩ : a = some ⟨gb, 0, none⟩ ∧ c = cap := by cases h1; exact ⟨rfl, rfl⟩
      have hgb2 := hgb.lt
      obtain ⟨c0, c1, c2, c3⟩ := hrow.below HB.out hgb2 n x hx
      clear h1 hx hrow
      have hsz := HB.out.size
      have hgw : gb < wr.heap.size := by omega
      go_wp2_with (at_builtin; refine wpList_append_own _ rfl _ _ 35 rfl w.heap.size 38 i0 _ 4 32 Try.underlying35 hi0 hz0 hz1 hz2 rfl (by decide) _ n (flat (l.take n)) rfl ((HO.out.alloc _).alloc _) ⟨wr.heap.size + 1, 0, none⟩ 1 1 x.cells rfl rfl (cells_at_block (w := (wr.alloc (.cells #[.int .i64 x.p, .int .i64 x.k, .int .i64 x.f, .int .i64 x.t] 78)).alloc (.cells #[.int .i64 x.p, .int .i64 x.k, .int .i64 x.f, .int .i64 x.t] 38)) (cs := #[.int .i64 x.p, .int .i64 x.k, .int .i64 x.f, .int .i64 x.t]) (t := 38) (by have hn2 := heap_alloc_new (wr.alloc (.cells #[.int .i64 x.p, .int .i64 x.k, .int .i64 x.f, .int .i64 x.t] 78)) (.cells #[.int .i64 x.p, .int .i64 x.k, .int .i64 x.f, .int .i64 x.t] 38); simp only [World.size_alloc] at hn2; exact hn2)) (by simp [Rn.cells, Value.oneCell']) (by unfold maxLen; omega) (by omega) (by simp; omega) ?_; intro v2 w2 hown2 hgr2 hnil2; have HO2 := Hid.mk hown2; have HG2 := Hid.mk hgr2; clear hown2 hgr2 hnil2)
      go_roundw
      case rel =>
        refine ⟨n + 1, by go_num, by omega, ?_, ?_⟩
        · show World.ownsRow _ _ _ _ _ _ _
          rw [HF.out]; exact HO2.out
        · exact ((HB.out.alloc (by omega) _).alloc (by simp; omega) _).grown HG2.out (by simp; omega) (fun k hk => (HO.out.lt k hk).1)
      case measure => simp [intOf]; omega
    · obtain rfl : n = l.length := by omega
      have HO3 := HO.out
      rw [List.take_of_length_le (Nat.le_refl _)] at HO3
      have HO4 := Hid.mk HO3
      clear HO3
      go_wp2
      go_ret
      exact ⟨_, rfl, HO4.out, HB.out⟩

set_option maxHeartbeats 1000000 in
theorem reply_any (n e : Int) (w : World) :
    Calls Try.prog 20 #[.int .i64 n, .int .i64 e] w fun r w' => r = .returned (.agg #[.int .i64 e, .int .i64 n, .slice none 0 0]) ∧ Below w.heap.size w w' := by
  go_enter Try.func20, Try.ntmps20
  go_wp2
  exact bodyPost_ret (v := .agg #[.int .i64 e, .int .i64 n, .slice none 0 0]) (by simp [results, Try.results20, go_sem]) rfl ⟨rfl, (Below.refl _ _).alloc (Nat.le_refl _) _⟩
end Go.Proofs.Ytafgecmenadhdaa
