/- What the document's own Add of URLs answers, for any URL, name and value of texts of at most 2^28 bytes and a port from 0 on. -/
import Derived.Test.YtbpeohadgplaaaaDoorUrlG
namespace Go.Proofs.YtbpeohadgplaaaaDoor
set_option maxRecDepth 8000
open Go.RowKit

def addQ (q n v : List UInt8) : List UInt8 := (if q = [] then [] else q ++ [38]) ++ (Pct.enc n ++ [61] ++ Pct.enc v)
def addU (u : Url.U) (n v : List UInt8) : Url.U := { u with query := addQ u.query n v, ask := true }

theorem refEncode_S (l : List UInt8) (w : World) (hs : l.length ≤ 1073741824) :
    Calls Tryd.prog 70 #[.string (S l)] w fun e w' => e = .returned (.string (S (Pct.enc l))) ∧ ∃ n, w' = w.drewN n :=
  refEncode_any (S l) w hs

end Go.Proofs.YtbpeohadgplaaaaDoor
