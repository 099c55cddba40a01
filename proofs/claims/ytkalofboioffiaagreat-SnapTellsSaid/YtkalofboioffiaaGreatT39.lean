import Derived.Test.YtkalofboioffiaaGreatT38
namespace Go.Proofs.YtkalofboioffiaaGreat
open Go.RowKit
set_option maxRecDepth 200000
set_option maxHeartbeats 64000000
theorem snapC : z88 where
 of := fun x g ver w h sg => yb3 x g ver w h sg
 may := fun x s w h => zue x s w h
 ask := fun x s c w h => z7e x s c w h
 note := fun x s w h => z18 x s w h
 same := fun x y s t w h h' hn _ => z19 x y s t w h h' hn
theorem beside18 : zlm where
 new := fun r v bal w h hn => z12 r v bal w h hn
 find := zeh
end Go.Proofs.YtkalofboioffiaaGreat
