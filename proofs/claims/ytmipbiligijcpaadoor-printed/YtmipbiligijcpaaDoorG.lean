/- Small laws of rows and worlds. -/
import Derived.Test.YtmipbiligijcpaaDoorW16
import Derived.Maps.AppendAt
import Derived.Deep.RegionLaw
namespace Go.Proofs.YtmipbiligijcpaaDoor
set_option linter.unusedVariables false
set_option linter.unusedSimpArgs false
open Go.RowKit Go.Proofs Go.Maps



theorem nc_labs (pl : List PN) : (pl.map PN.nc).map NC.lab = pl.map PN.lab := by simp [PN.nc, Function.comp_def]
theorem vnum_nn (vs : List Nam) (v : Nam) : 0 ≤ vnum vs v := by unfold vnum; split <;> omega
end Go.Proofs.YtmipbiligijcpaaDoor
