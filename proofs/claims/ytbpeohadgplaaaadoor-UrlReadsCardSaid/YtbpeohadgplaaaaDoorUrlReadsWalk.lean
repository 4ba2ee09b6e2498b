/- The document's own Parse of URLs answers as the plain reading does. -/
import Derived.Test.YtbpeohadgplaaaaDoorUrlJ0
import Derived.Test.YtbpeohadgplaaaaDoorUrlJ7
import Derived.Test.YtbpeohadgplaaaaDoorUrlJ8
import Derived.Test.YtbpeohadgplaaaaDoorUrlM7
import Derived.Test.YtbpeohadgplaaaaDoorUrlM8
import Derived.Test.YtbpeohadgplaaaaDoorUrlN
namespace Go.Proofs.YtbpeohadgplaaaaDoor
set_option maxRecDepth 8000
open Go.RowKit

theorem refParses : RefParses := by
  intro l w he
  by_cases hlong : 2000 < l.length
  · rw [show Url.parse l = .error 2 by unfold Url.parse; rw [if_pos hlong]]
    exact refParse_long l w he hlong
  · cases h7 : is7 l with
    | true =>
      have h7n := (sch_7 h7).2
      cases hok : hostOk ((l.drop 7).takeWhile Url.noDelim) with
      | true =>
        by_cases h8n : 8 ≤ l.length
        · exact refParse_on7 l _ w he hlong h7 h8n rfl hok
        · exfalso
          rw [List.drop_eq_nil_of_le (by omega)] at hok
          cases hok
      | false =>
        rw [parse_host hlong (sch_7 h7).1 hok]
        by_cases h8n : 8 ≤ l.length
        · exact refParse_host7 l _ w he hlong h7 h8n rfl hok
        · exact refParse_bare l w he (by omega) h7
    | false =>
      cases h8 : is8 l with
      | true =>
        have h8n := (sch_8 h7 h8).2
        cases hok : hostOk ((l.drop 8).takeWhile Url.noDelim) with
        | true => exact refParse_on8 l _ w he hlong h7 h8 h8n rfl hok
        | false =>
          rw [parse_host hlong (sch_8 h7 h8).1 hok]
          exact refParse_host8 l _ w he hlong h7 h8 h8n rfl hok
      | false =>
        rw [parse_scheme hlong (sch_none h7 h8)]
        by_cases h8n : 8 ≤ l.length
        · exact refParse_none l w he hlong h8n h7 h8
        · by_cases h7n : l.length = 7
          · exact refParse_seven l w he h7n h7
          · exact refParse_few l w he (by omega)
theorem urlReads_any (s : ByteArray) (w : World) (he : Env w) : Calls Tryd.prog 3 #[.string s] w (AwakePost w) :=
  urlReads_of refParses s w he
end Go.Proofs.YtbpeohadgplaaaaDoor
