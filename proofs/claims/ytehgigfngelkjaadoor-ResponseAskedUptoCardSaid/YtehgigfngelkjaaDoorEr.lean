/- What the document's Reason and Right of responses answer, for any response with texts of at most 2^30 bytes. -/
import Derived.Test.YtehgigfngelkjaaDoorEp
import Derived.Test.YtehgigfngelkjaaDoorEq
namespace Go.Proofs.YtehgigfngelkjaaDoor
set_option maxRecDepth 8000
open Go.RowKit

theorem ret_S {a : List UInt8} {x : ByteArray} (h : x = S a) : Ending.returned (.string x) = .returned (.string (S a)) := by rw [h]
set_option maxHeartbeats 800000 in
theorem refReason_any (s : Int) (w : World) :
    Calls Tryd.prog 16 #[.int .i64 s] w fun e w' => e = .returned (.string (S (Rsp.reason s))) ∧ w = w' := by
  have HR := Lib.hid (show Rsp.reason s = if s = 200 then Rsp.t200 else if s = 302 then Rsp.t302 else if s = 400 then Rsp.t400 else if s = 403 then Rsp.t403 else if s = 404 then Rsp.t404 else if s = 405 then Rsp.t405 else if s = 503 then Rsp.t503 else [] from rfl)
  by_cases h0 : s = 200
  · have HV := Lib.hid (show Rsp.reason s = Rsp.t200 by rw [HR.out, if_pos h0])
    go_enter Tryd.func16, Tryd.ntmps16
    go_wp2
    go_ret
    exact ⟨by rw [HV.out]; rfl, rfl⟩
  by_cases h1 : s = 302
  · have HV := Lib.hid (show Rsp.reason s = Rsp.t302 by rw [HR.out, if_neg h0, if_pos h1])
    go_enter Tryd.func16, Tryd.ntmps16
    go_wp2
    go_ret
    exact ⟨by rw [HV.out]; rfl, rfl⟩
  by_cases h2 : s = 400
  · have HV := Lib.hid (show Rsp.reason s = Rsp.t400 by rw [HR.out, if_neg h0, if_neg h1, if_pos h2])
    go_enter Tryd.func16, Tryd.ntmps16
    go_wp2
    go_ret
    exact ⟨by rw [HV.out]; rfl, rfl⟩
  by_cases h3 : s = 403
  · have HV := Lib.hid (show Rsp.reason s = Rsp.t403 by rw [HR.out, if_neg h0, if_neg h1, if_neg h2, if_pos h3])
    go_enter Tryd.func16, Tryd.ntmps16
    go_wp2
    go_ret
    exact ⟨by rw [HV.out]; rfl, rfl⟩
  by_cases h4 : s = 404
  · have HV := Lib.hid (show Rsp.reason s = Rsp.t404 by rw [HR.out, if_neg h0, if_neg h1, if_neg h2, if_neg h3, if_pos h4])
    go_enter Tryd.func16, Tryd.ntmps16
    go_wp2
    go_ret
    exact ⟨by rw [HV.out]; rfl, rfl⟩
  by_cases h5 : s = 405
  · have HV := Lib.hid (show Rsp.reason s = Rsp.t405 by rw [HR.out, if_neg h0, if_neg h1, if_neg h2, if_neg h3, if_neg h4, if_pos h5])
    go_enter Tryd.func16, Tryd.ntmps16
    go_wp2
    go_ret
    exact ⟨by rw [HV.out]; rfl, rfl⟩
  by_cases h6 : s = 503
  · have HV := Lib.hid (show Rsp.reason s = Rsp.t503 by rw [HR.out, if_neg h0, if_neg h1, if_neg h2, if_neg h3, if_neg h4, if_neg h5, if_pos h6])
    go_enter Tryd.func16, Tryd.ntmps16
    go_wp2
    go_ret
    exact ⟨by rw [HV.out]; rfl, rfl⟩
  have HV := Lib.hid (show Rsp.reason s = [] by rw [HR.out, if_neg h0, if_neg h1, if_neg h2, if_neg h3, if_neg h4, if_neg h5, if_neg h6])
  go_enter Tryd.func16, Tryd.ntmps16
  go_wp2
  go_ret
  exact ⟨by rw [HV.out]; rfl, rfl⟩

namespace Rsp
def endsOk (v : Bytes) : Bool := !(v.head? == some 32) && !(v.reverse.head? == some 32)
def hdrOk2 (q : Pct.PairL) : Bool := Ck.token q.1 && Req.within 32 126 q.2 && !Req.alike q.1 Req.cl && endsOk q.2
theorem alike_cl (a : Bytes) : Req.alike a lenName = Req.alike a Req.cl := by
  unfold Req.alike
  rw [show lenName.map Req.low = Req.cl.map Req.low from by decide +kernel]
theorem con32 (c : UInt8) : ([32] : Bytes).contains c = (c == 32) := Lib.contains_one 32 c
theorem trim_ends (v : Bytes) : (Lib.trimS v [32] == v) = endsOk v := by
  cases he : endsOk v with
  | true =>
    unfold endsOk at he
    simp only [Bool.and_eq_true, Bool.not_eq_true', beq_eq_false_iff_ne, ne_eq] at he
    have h1 : v.reverse.dropWhile (List.contains [32] ·) = v.reverse := Req.dw_same _ _ fun c hc => by
      rw [con32]
      exact beq_eq_false_iff_ne.2 fun e => he.2 (by rw [hc, e])
    have h2 : v.dropWhile (List.contains [32] ·) = v := Req.dw_same _ _ fun c hc => by
      rw [con32]
      exact beq_eq_false_iff_ne.2 fun e => he.1 (by rw [hc, e])
    rw [beq_iff_eq]
    unfold Lib.trimS Lib.trimLeftS Lib.trimRightS
    rw [h1, List.reverse_reverse, h2]
  | false =>
    rw [beq_eq_false_iff_ne]
    intro h
    obtain ⟨h1, h2⟩ := Req.trimS_same h
    have : endsOk v = true := by
      unfold endsOk
      rw [Bool.and_eq_true, Bool.not_eq_true', Bool.not_eq_true', beq_eq_false_iff_ne, beq_eq_false_iff_ne]
      exact ⟨fun e => by have := h1 32 e; rw [con32] at this; simp at this, fun e => by have := h2 32 e; rw [con32] at this; simp at this⟩
    rw [he] at this
    cases this
theorem hdrOk_same (q : Pct.PairL) : hdrOk q = hdrOk2 q := by
  unfold hdrOk hdrOk2 Req.isText
  rw [trim_ends, alike_cl]
  cases Ck.token q.1 <;> cases Req.within 32 126 q.2 <;> cases endsOk q.2 <;> cases Req.alike q.1 Req.cl <;> rfl
end Rsp
end Go.Proofs.YtehgigfngelkjaaDoor
