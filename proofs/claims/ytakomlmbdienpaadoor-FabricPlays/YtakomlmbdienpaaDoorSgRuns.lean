/- DERIVED of the program: MsgRuns returns true. Own work. -/
import Derived.Test.YtakomlmbdienpaaDoorSgG
import Derived.Test.YtakomlmbdienpaaDoorSgH
namespace Go.Proofs.YtakomlmbdienpaaDoor
open Go.RowKit Go.Extern.Stop Go.Stop Go.Extern

theorem runs_bytes : encM (3, 1, 2, 0, 0, 0, 3, 4, 0, 0, 0, 0, false) = [6, 2, 4, 6, 8] := by
  have h1 : enc (zz 1) = [2] := enc_lt (by decide)
  have h2 : enc (zz 2) = [4] := enc_lt (by decide)
  have h3 : enc (zz 3) = [6] := enc_lt (by decide)
  have h4 : enc (zz 4) = [8] := enc_lt (by decide)
  rw [encM_U (.inl rfl)]
  simp [h1, h2, h3, h4]
theorem runs_right : rtP (3, 1, 2, 0, 0, 0, 3, 4, 0, 0, 0, 0, false) := by simp [rtP]
theorem runs_short : gotM [6, 2, 4, 6] = (3, zero13) := by
  have h : endS [6, 2, 4, 6] (getM [6, 2, 4, 6]).1.2 (getM [6, 2, 4, 6]).1.1 = 3 := by decide +kernel
  unfold gotM
  rw [h, if_pos (by decide)]
theorem runs_form : gotM [26, 2, 4, 0, 0, 6, 0] = (4, zero13) := by
  have h : endS [26, 2, 4, 0, 0, 6, 0] (getM [26, 2, 4, 0, 0, 6, 0]).1.2 (getM [26, 2, 4, 0, 0, 6, 0]).1.1 = 0 := by decide +kernel
  have h2 : (getM [26, 2, 4, 0, 0, 6, 0]).2 = (13, 1, 2, 3, 0, 0, 0, 0, 0, 0, 0, 0, false) := by kernel_rfl
  unfold gotM
  rw [h, if_neg (by decide), rtB_no _ (by rw [h2]; simp [rtP]), if_neg (by decide)]

end Go.Proofs.YtakomlmbdienpaaDoor
