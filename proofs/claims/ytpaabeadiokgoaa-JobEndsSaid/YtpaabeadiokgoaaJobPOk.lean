/- The program's functions of layer 11 keep their contracts. Written by gen/gen_jobp.py. -/
import Derived.Test.YtpaabeadiokgoaaJobFace
import Derived.Test.YtpaabeadiokgoaaJobPDo
namespace Go.Proofs.Ytpaabeadiokgoaa
open Go.RowKit

theorem jobOk_is : JobOk where
  right A m c j w hj _ := jobRight_any A m c j w hj
  does A m c j what now w hj hm _ hn := jobDo_any A m c j what now w hj (by omega) hn
  over s w _ := (over_any s w).mono fun _ _ ⟨h1, h2⟩ => ⟨h1, by rw [← h2]; exact Below.refl _ _⟩
  name s w _ := (name_any s w).mono fun _ _ ⟨h1, h2⟩ => ⟨h1, by rw [← h2]; exact Below.refl _ _⟩

end Go.Proofs.Ytpaabeadiokgoaa
