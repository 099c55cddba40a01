/-
  Package vote: all that is asked of its functions.
-/
import Derived.Test.YtfmbgpjpkahmnaaP12New
import Derived.Test.YtfmbgpjpkahmnaaP12Same
import Derived.Test.YtfmbgpjpkahmnaaP12Put
import Derived.Test.YtfmbgpjpkahmnaaP12Drop
namespace Go.Proofs.Ytfmbgpjpkahmnaa
open Go.RowKit
theorem voteC : VoteC where
  may := voteMay
  new := voteNew
  put := votePut
  putO := votePutO
  drop := voteDrop
  same := voteSame
end Go.Proofs.Ytfmbgpjpkahmnaa
