import Derived.Test.YtfcaodaaklngmaaDevA
/-! Calm devices. -/
namespace Go.Proofs.Ytfcaodaaklngmaa
theorem vW10 : validW 1 0 := by unfold validW; omega
theorem DS.admit_calm (D : DS) (s e : Int) (hf : D.failed = false) (hw : D.waits = false) (he : D.fen (s - 1).toNat < e) : D.admit s e = (0, D) := by
  unfold DS.admit
  rw [if_neg (by rw [hf]; decide), if_neg (by omega), if_neg (by rw [hw]; simp), if_neg (by rw [hw]; decide)]
end Go.Proofs.Ytfcaodaaklngmaa
