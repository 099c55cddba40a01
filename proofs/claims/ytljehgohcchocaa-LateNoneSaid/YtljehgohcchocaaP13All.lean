/-
  Package late: what is asked of its functions holds.
-/
import Derived.Test.YtljehgohcchocaaW13
import Derived.Test.YtljehgohcchocaaP13Put
import Derived.Test.YtljehgohcchocaaP13Next
import Derived.Test.YtljehgohcchocaaP13Due
import Derived.Test.YtljehgohcchocaaP13Same
namespace Go.Proofs.Ytljehgohcchocaa
theorem lateC : LateC where
  may := latMayP
  put := latPutP
  due := fun v l now w _ h hn => latDueP v l now w h hn
  next := latNextP
  same := latSameP
end Go.Proofs.Ytljehgohcchocaa
