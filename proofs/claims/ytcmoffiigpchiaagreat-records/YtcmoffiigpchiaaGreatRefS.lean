import Derived.Test.YtcmoffiigpchiaaGreatStepRD
import Derived.Test.YtcmoffiigpchiaaGreatStepRE
import Derived.Test.YtcmoffiigpchiaaGreatPaL
namespace Go.Proofs.YtcmoffiigpchiaaGreat
open Go.RowKit

theorem refSteps : RefSteps := fun b g cap m c hi hsz w h => mstep_ref (fun b g cap m c hi hc hh hn hct hsz w h => by
  cases hp : (RM.place m).2 with
  | false => exact mstep_some b g cap m c hi hc hh hn hct hp hsz w h
  | true => exact mstep_none b g cap m c hi hc hh hn hct hp hsz w h) b g cap m c hi hsz w h
end Go.Proofs.YtcmoffiigpchiaaGreat
