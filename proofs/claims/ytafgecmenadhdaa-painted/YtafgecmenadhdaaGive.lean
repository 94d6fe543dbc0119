/- Contract of Table.give: the least free descriptor of a process is of the opening. -/
import Derived.Test.YtafgecmenadhdaaTable
import Derived.Deep.RegionLaw
namespace Go.Proofs.Ytafgecmenadhdaa
open Go.RowKit Go.Lib

theorem setBlock_same {w : World} {b : Nat} {o : Obj} (h : b < w.heap.size) : (ChangeMaps.setBlock w b o).heap[b]? = some o := by simp [ChangeMaps.setBlock, h]
theorem setBlock_other {w : World} {b k : Nat} {o : Obj} (h : k ≠ b) : (ChangeMaps.setBlock w b o).heap[k]? = w.heap[k]? := by
  simp only [ChangeMaps.setBlock, Array.getElem?_setIfInBounds]
  rw [if_neg (by omega)]
theorem gb_setBlock {w : World} {b : Nat} {o : Obj} : w.grownBy (ChangeMaps.setBlock w b o) (some b) :=
  ⟨rfl, rfl, rfl, by simp [ChangeMaps.setBlock], fun k _ hk => setBlock_other (fun e => hk (by rw [e]))⟩

set_option maxHeartbeats 4000000 in
set_option maxRecDepth 100000 in
theorem give_some {w : World} {tb mb : Nat} {L : Nat → Bool} {F : Int → Int → Option Nat} (h : Tab w tb mb L) (hm : MapAt w mb F) (p : Int) (ob d : Nat) (hd : d < 5) (h1 : ∀ j : Nat, j < d → (F p j).isSome = true) (h2 : F p d = none) :
    Calls Try.prog 44 #[.pointer (some ⟨tb, 0, none⟩), .int .i64 p, .pointer (some ⟨ob, 0, none⟩)] w fun e w' => e = .returned (.tuple #[.int .i64 d, .int .i64 0]) ∧ MapAt w' mb (updF F p d (some ob)) ∧ w.grownBy w' (some mb) := by
  have H := Hid.mk h
  have HM := Hid.mk hm
  have H1 := Hid.mk h1
  have H2 := Hid.mk h2
  have htl := h.lt
  have hml := hm.lt
  clear h hm h1 h2
  go_enter Try.func44, Try.ntmps44
  go_wp2
  go_loopw [12] (fun s wr => ∃ k : Nat, s = .int .i64 k ∧ k ≤ d ∧ Hid (Below w.heap.size w wr)) (fun s _ => 5 - (intOf s).toNat)
  case atStart => exact ⟨0, rfl, Nat.zero_le _, Below.refl _ _⟩
  case round =>
    obtain ⟨k, rfl, hk, HB⟩ := hrel
    have hmc : wr.cell? ⟨tb, 6, none⟩ = some (.map (some mb)) := (HB.out.cell (p := ⟨tb, 6, none⟩) htl).trans H.out.mapCell
    have hsz := HB.out.size
    have htl' : tb < wr.heap.size := by omega
    have hml' : mb < wr.heap.size := by omega
    have hbm : wr.heap[mb]? = w.heap[mb]? := HB.out.block mb hml
    have HBM := Hid.mk hbm
    clear hbm
    by_cases hlt : k < d
    · have hsome := H1.out k hlt
      obtain ⟨b, hb⟩ := Option.isSome_iff_exists.1 hsome
      have HL : Hid (∀ W : World, W.heap[mb]? = w.heap[mb]? → (Instr.lookup 85 (.map (some mb)) (.agg #[.int .i64 p, .int .i64 k]) true).run Try.prog W = .ok (.tuple #[.pointer (some ⟨b, 0, none⟩), .bool true]) W) := fun W hW => by
        have := HM.out.lookup W hW p k
        rw [hb] at this
        exact this
      have hlk := HL.out (wr.alloc (.cells #[.int .i64 p, .int .i64 k] 94)).drew (by show (wr.alloc _).heap[mb]? = _; rw [Below.heap_alloc _ _ _ hml']; exact HBM.out)
      clear hsome hb
      go_wp2
      go_region
      go_wp2
      go_roundw
      case rel => exact ⟨k + 1, by go_num, by omega, (HB.out.alloc (by omega) _).drew⟩
      case measure => simp [intOf]; omega
    · obtain rfl : k = d := by omega
      have HL : Hid (∀ W : World, W.heap[mb]? = w.heap[mb]? → (Instr.lookup 85 (.map (some mb)) (.agg #[.int .i64 p, .int .i64 k]) true).run Try.prog W = .ok (.tuple #[.pointer none, .bool false]) W) := fun W hW => by
        have := HM.out.lookup W hW p k
        rw [H2.out] at this
        exact this
      have hmW : (wr.alloc (.cells #[.int .i64 p, .int .i64 k] 94)).heap[mb]? = w.heap[mb]? := by rw [Below.heap_alloc _ _ _ hml']; exact HBM.out
      have hlk := HL.out (wr.alloc (.cells #[.int .i64 p, .int .i64 k] 94)).drew hmW
      obtain ⟨o', hu1, hu2⟩ := HM.out.update p k H2.out ob
      have hup := hu1 ((wr.alloc (.cells #[.int .i64 p, .int .i64 k] 94)).drew.drew) hmW
      have HU := Hid.mk hu2
      have HW := Hid.mk hmW
      clear hu1 hu2 hmW
      go_wp2
      go_region
      go_wp2
      go_region
      go_wp2
      go_ret2
      refine ⟨rfl, HU.out _ (setBlock_same (by show mb < (wr.alloc _).heap.size; simp; omega)), ?_⟩
      exact gb_trans (gb_below (HB.out.alloc (by omega) _).drew.drew _) gb_setBlock

set_option maxHeartbeats 4000000 in
set_option maxRecDepth 100000 in
theorem give_none {w : World} {tb mb : Nat} {L : Nat → Bool} {F : Int → Int → Option Nat} (h : Tab w tb mb L) (hm : MapAt w mb F) (p : Int) (ob : Nat) (h1 : ∀ j : Nat, j < 5 → (F p j).isSome = true) :
    Calls Try.prog 44 #[.pointer (some ⟨tb, 0, none⟩), .int .i64 p, .pointer (some ⟨ob, 0, none⟩)] w fun e w' => e = .returned (.tuple #[.int .i64 0, .int .i64 3]) ∧ Below w.heap.size w w' := by
  have H := Hid.mk h
  have HM := Hid.mk hm
  have H1 := Hid.mk h1
  have htl := h.lt
  have hml := hm.lt
  clear h hm h1
  go_enter Try.func44, Try.ntmps44
  go_wp2
  go_loopw [12] (fun s wr => ∃ k : Nat, s = .int .i64 k ∧ k ≤ 5 ∧ Hid (Below w.heap.size w wr)) (fun s _ => 5 - (intOf s).toNat)
  case atStart => exact ⟨0, rfl, Nat.zero_le _, Below.refl _ _⟩
  case round =>
    obtain ⟨k, rfl, hk, HB⟩ := hrel
    have hmc : wr.cell? ⟨tb, 6, none⟩ = some (.map (some mb)) := (HB.out.cell (p := ⟨tb, 6, none⟩) htl).trans H.out.mapCell
    have hsz := HB.out.size
    have htl' : tb < wr.heap.size := by omega
    have hml' : mb < wr.heap.size := by omega
    have HBM := Hid.mk (HB.out.block mb hml)
    by_cases hlt : k < 5
    · have hsome := H1.out k hlt
      obtain ⟨b, hb⟩ := Option.isSome_iff_exists.1 hsome
      have hlk := HM.out.lookup (wr.alloc (.cells #[.int .i64 p, .int .i64 k] 94)).drew (by show (wr.alloc _).heap[mb]? = _; rw [Below.heap_alloc _ _ _ hml']; exact HBM.out) p k
      rw [hb] at hlk
      simp only [ptrV, Option.map_some, Option.isSome_some] at hlk
      clear hsome hb
      go_wp2
      go_region
      go_wp2
      go_roundw
      case rel => exact ⟨k + 1, by go_num, by omega, (HB.out.alloc (by omega) _).drew⟩
      case measure => simp [intOf]; omega
    · obtain rfl : k = 5 := by omega
      go_wp2
      go_ret2
      exact ⟨rfl, HB.out⟩
end Go.Proofs.Ytafgecmenadhdaa
