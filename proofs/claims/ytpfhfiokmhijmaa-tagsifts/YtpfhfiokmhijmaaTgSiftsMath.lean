/- What a good series' two parts are together, as mathematics. -/
import Derived.Test.YtpfhfiokmhijmaaTgMakesWalk
import Derived.Test.YtpfhfiokmhijmaaTgSifted
namespace Go.Proofs.Ytpfhfiokmhijmaa
open Go.RowKit
namespace Tg
theorem sift_perm (names : List ByteArray) (l : List LabM) : (sift names false l ++ sift names true l).Perm l := by
  have h := List.filter_append_perm (fun x : LabM => Lib.containsS names x.1.1 == false) l
  have he : l.filter (fun x : LabM => !(Lib.containsS names x.1.1 == false)) = sift names true l := by
    unfold sift
    apply List.filter_congr
    intro x _
    cases Lib.containsS names x.1.1 <;> rfl
  rw [he] at h
  exact h
theorem sifts_made {m : ByteArray} {L : List LabM} (names : List ByteArray) (h : goodB m (labs L) = true) : makeE m (labs (sift names false L ++ sift names true L)) = 0 ∧ sortL (labs (sift names false L ++ sift names true L)) = labs L := by
  simp only [goodB, Bool.and_eq_true, decide_eq_true_eq] at h
  have hp : (labs (sift names false L ++ sift names true L)).Perm (labs L) := (sift_perm names L).map _
  have hs := good_str _ _ h.2
  refine ⟨?_, sortL_eq hp.symm hs⟩
  rw [makeE_perm m hp, makeE_end h.1.1 (List.all_eq_true.2 (goodFrom_all _ _ h.2)) (str_nodup hs), if_neg (by omega)]
end Tg
end Go.Proofs.Ytpfhfiokmhijmaa
