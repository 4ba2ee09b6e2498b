/- What package response's Get answers, for any response of at most 1000 headers with texts of at most 2^30 bytes. -/
import Derived.Test.YtehgigfngelkjaaDoorEf
namespace Go.Proofs.YtehgigfngelkjaaDoor
set_option maxRecDepth 8000
open Go.RowKit

namespace Rsp
def get (nm : List UInt8) (l : List Pct.PairL) : List (List UInt8) := (l.filter fun q => Req.alike q.1 nm).map (·.2)
theorem get_snoc (nm : List UInt8) (l : List Pct.PairL) (q : Pct.PairL) : get nm (l ++ [q]) = if Req.alike q.1 nm = true then get nm l ++ [q.2] else get nm l := by
  unfold get
  rw [List.filter_append, List.map_append]
  by_cases h : Req.alike q.1 nm = true
  · rw [if_pos h]; simp [h]
  · rw [if_neg h]; simp [h]
theorem get_len (nm : List UInt8) (l : List Pct.PairL) : (get nm l).length ≤ l.length := by
  unfold get; rw [List.length_map]; exact List.length_filter_le _ _
end Rsp

set_option maxHeartbeats 800000 in
theorem get_any (s : Int) (A : Option Addr) (cap : Nat) (l : List Pct.PairL) (b nm : List UInt8) (w : World) (hl : PCells w w.heap.size A l) (hm : l.length ≤ 1000) (hq : ∀ k (h : k < l.length), l[k].1.length ≤ 1073741824) :
    Calls Tryd.prog 18 #[rspV s (.slice A l.length cap) b, .string (S nm)] w fun e w' => ∃ v, e = .returned v ∧ SRow w.heap.size w' v (Rsp.get nm l) ∧ Below w.heap.size w w' := by
  obtain ⟨i0, hi0, hz0, hz1, hz2⟩ := info_parts Tryd.infoString
  unfold rspV
  go_enter Tryd.func18, Tryd.ntmps18
  go_wp2
  go_loopw [5, 11] (fun x i wr => ∃ (k : Nat) (ps : List (List UInt8)), k ≤ l.length ∧ i = .int .i64 k ∧ ps = Rsp.get nm (l.take k) ∧ SRow w.heap.size wr x ps ∧ Below w.heap.size w wr) (fun _ i _ => l.length - (intOf i).toNat)
  case atStart => exact ⟨0, [], Nat.zero_le _, rfl, rfl, World.ownsRow_nil _ _ _ _, (Below.refl _ _).alloc (Nat.le_refl _) _⟩
  case round =>
    obtain ⟨k, ps, hk, rfl, hps, hrow, hb⟩ := hrel
    have hbs := hb.size
    have hpl : ps.length ≤ 1000 := by
      rw [hps]
      have h1 := Rsp.get_len nm (l.take k)
      have h2 : (l.take k).length ≤ k := List.length_take_le _ _
      omega
    have HPS := Lib.hid hps
    clear hps
    have h63 : ps.length + 1 ≤ maxLen := by unfold maxLen; omega
    by_cases hlt : k < l.length
    · obtain ⟨ab, off, rfl, hbb, hcl⟩ := hl (by omega)
      obtain ⟨c0', c1'⟩ := hcl k hlt
      have hA := fun w' => alike_to l[k].1 nm w' (hq k hlt)
      have HS := Lib.hid (show Rsp.get nm (l.take (k + 1)) = if Req.alike l[k].1 nm = true then ps ++ [l[k].2] else ps by
        rw [List.take_succ_eq_append_getElem hlt, Rsp.get_snoc, HPS.out])
      clear hcl hq
      obtain ⟨n, hn⟩ : ∃ n, n = l[k].1 := ⟨_, rfl⟩
      obtain ⟨v, hv⟩ : ∃ v, v = l[k].2 := ⟨_, rfl⟩
      rw [← hn] at c0' hA HS
      rw [← hv] at c1' HS
      clear hn hv
      have c0 : wr.cell? ⟨ab, off + k * 2, none⟩ = some (.string (S n)) := (hb.cell (p := ⟨ab, off + k * 2, none⟩) hbb).trans c0'
      have c1 : wr.cell? ⟨ab, off + k * 2 + 1, none⟩ = some (.string (S v)) := (hb.cell (p := ⟨ab, off + k * 2 + 1, none⟩) hbb).trans c1'
      clear c0' c1'
      have j0 : (0 : Int) ≤ (k : Int) := by omega
      have j1 : (k : Int) < (l.length : Int) := by omega
      cases h3 : Req.alike n nm with
      | true =>
        rw [h3, if_pos rfl] at HS
        rw [h3] at hA
        clear h3
        go_wp2_with fail
        refine (hA _).mono ?_
        rintro e w3 ⟨rfl, hb3⟩
        have hb4 : Below w.heap.size w w3 := (hb.alloc hb.size _).trans (hb3.mono (by have := hb.size; simp; omega))
        have e1 := ((Blk2.new wr (S n) (S v)).below hb3 (by simp)).cell1
        have hown3 : w3.ownsRow w.heap.size 9 1 u5 ps.length (strsV ps) := own_below (hrow.alloc _) hb3
        have hbs3 := hb4.size
        clear hb3
        go_wp2_with (at_builtin; refine wpList_append_lies _ rfl (.tmp 19) (.tmp 22) _ rfl w.heap.size 9 i0 _ 1 16 Tryd.underlying32 hi0 hz0 hz1 hz2 rfl (by omega) _ ps.length (strsV ps) rfl (hown3.alloc _) ⟨w3.heap.size, 0, none⟩ 1 1 [.string (S (v))] rfl rfl (World.news_of_block (cs := #[.string (S (v))]) (t := 9) (fr := (0, 0)) (heap_alloc_new w3 _)) (by simp [Value.oneCell']) (by omega) (by omega) (by omega) (by simp; omega) (w3.heap.size + 1) (by simp) ?_; intro gg cap w1 hown1 hgrow hat hlt1)
        go_roundw
        case rel => exact ⟨k + 1, ps ++ [v], by omega, by go_num, HS.out.symm, srow_snoc hown1, (hb4.alloc hbs3 _).grown hgrow (by simp; omega) (fun k hk => (hown3.lt k hk).1)⟩
        case measure => simp [intOf]; omega
      | false =>
        rw [h3, if_neg (by decide)] at HS
        rw [h3] at hA
        clear h3
        go_wp2_with fail
        refine (hA _).mono ?_
        rintro e w3 ⟨rfl, hb3⟩
        have hb4 : Below w.heap.size w w3 := (hb.alloc hb.size _).trans (hb3.mono (by have := hb.size; simp; omega))
        have hown3 : w3.ownsRow w.heap.size 9 1 u5 ps.length (strsV ps) := own_below (hrow.alloc _) hb3
        clear hb3
        go_wp2
        go_roundw
        case rel => exact ⟨k + 1, ps, by omega, by go_num, HS.out.symm, hown3, hb4⟩
        case measure => simp [intOf]; omega
    · have HE := Lib.hid (show ps = Rsp.get nm l by rw [HPS.out, List.take_of_length_le (by omega)])
      go_wp2
      go_ret
      exact ⟨_, rfl, HE.out ▸ hrow, hb⟩
end Go.Proofs.YtehgigfngelkjaaDoor
