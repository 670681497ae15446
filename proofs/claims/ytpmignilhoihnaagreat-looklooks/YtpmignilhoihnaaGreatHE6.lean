/-
 A well-formed image, as it is looked through.
-/
import Derived.Test.YtpmignilhoihnaaGreatHE4
namespace Go.Proofs.YtpmignilhoihnaaGreat

def putI (tm : Int → Int) (k v : Int) : Int → Int := fun x => if x = k then v else tm x
end Go.Proofs.YtpmignilhoihnaaGreat

namespace Go.Proofs.YtpmignilhoihnaaGreat

end Go.Proofs.YtpmignilhoihnaaGreat
