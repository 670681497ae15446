/-
 A look that ends with the image as it is: an inode is entered.
-/
import Derived.Test.YtpmignilhoihnaaGreatHC6
namespace Go.Proofs.YtpmignilhoihnaaGreat

end Go.Proofs.YtpmignilhoihnaaGreat

namespace Go.Proofs.YtpmignilhoihnaaGreat

end Go.Proofs.YtpmignilhoihnaaGreat

namespace Go.Proofs.YtpmignilhoihnaaGreat

def CC (M : Nat) (im : Img) (c : Nat → Int → Bool) (k : Nat) (n : Int) : Bool := (dblT im.length M (zI im ((k : Int) + 1)) im (c k)).2.cl n && !c k n
end Go.Proofs.YtpmignilhoihnaaGreat
