/- What the program's calls of package frame tell, as the one structure, where the table of sums reads as its text lays it. -/
import Derived.Test.YtocfppopnoegmaaDoorFsS
namespace Go.Proofs.YtocfppopnoegmaaDoor
set_option maxRecDepth 8000
open Go.RowKit

theorem frOk : FrOk Hs where
  next := fun _ _ h hb => h.next hb
  put := fun A c n l w h hn hb hc hcm => put_any A c n l w h hn hb (by omega)
  all := fun A c n l w h hn hl hc hcm ht hq => all_any A c n l w h hn hl ht hq (by omega)
  scan := fun A c n l w h hn hb hc hcm hl => scan_any A c n l w h hn hb hc hcm hl
  size := fun n w _ hn => (size_any n w hn).mono (fun _ _ ⟨h1, h2⟩ => ⟨h1, by subst h2; exact Below.refl _ _⟩)
end Go.Proofs.YtocfppopnoegmaaDoor
