/-
  Package link: what is asked of its functions holds.
-/
import Derived.Test.YtkbifcfgcokmlaaQ19
import Derived.Test.YtkbifcfgcokmlaaQ28
import Derived.Test.YtkbifcfgcokmlaaQ35
namespace Go.Proofs.Ytkbifcfgcokmlaa
theorem linkC : LinkC where
  may := linkMay
  same := fun u v a b w h k hn _ => linkSame u v a b w h k hn
  put := linkPut
  who := linkWho
  clash := linkClash
  guilty := linkGuilty
end Go.Proofs.Ytkbifcfgcokmlaa
