/- Two small helps of the walks. -/
import Derived.Test.YtaicdjhblbobbabGreatChecked
import Derived.WalkKit
import Derived.WalkSpells
import Derived.WalkLawsBesides
import Derived.Deep.Light
import Derived.Deep.RegionHeld3
namespace Go.Proofs.YtaicdjhblbobbabGreat
open Go.RowKit
theorem ret_bool {a b : Bool} (h : a = b) : Ending.returned (.bool a) = .returned (.bool b) := by rw [h]
theorem ret_val {a b : Value} (h : a = b) : Ending.returned a = .returned b := by rw [h]
theorem Hid.mk {p : Prop} (h : p) : Hid p := h
end Go.Proofs.YtaicdjhblbobbabGreat
