import Derived.Test.YtkalofboioffiaaGreatQ38
namespace Go.Proofs.YtkalofboioffiaaGreat
open Go.RowKit
set_option maxRecDepth 200000
set_option maxHeartbeats 64000000
theorem snapC : zn1 where
 of := fun x g ver w h sg => yhq x g ver w h sg
 may := fun x s w h => zyz x s w h
 ask := fun x s c w h => ycm x s c w h
 note := fun x s w h => z7g x s w h
 same := fun x y s t w h h' hn _ => z7h x y s t w h h' hn
theorem beside18 : zdn where
 new := fun r v bal w h hn => z67 r v bal w h hn
 find := zdh
end Go.Proofs.YtkalofboioffiaaGreat
