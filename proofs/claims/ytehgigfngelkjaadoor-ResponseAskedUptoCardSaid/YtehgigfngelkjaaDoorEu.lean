/- What the document's Get of responses answers, for any response of at most 1000 headers with texts of at most 2^30 bytes. -/
import Derived.Test.YtehgigfngelkjaaDoorEt
namespace Go.Proofs.YtehgigfngelkjaaDoor
set_option maxRecDepth 8000
open Go.RowKit

set_option maxHeartbeats 800000 in
theorem refGet_any (s : Int) (A : Option Addr) (cap : Nat) (l : List Pct.PairL) (b nm : List UInt8) (w : World) (hl : PCells w w.heap.size A l) (hm : l.length ≤ 1000) (hq : ∀ k (h : k < l.length), l[k].1.length ≤ 1073741824) :
    Calls Tryd.prog 19 #[rspV s (.slice A l.length cap) b, .string (S nm)] w fun e w' => ∃ v, e = .returned v ∧ SRow w.heap.size w' v (Rsp.get nm l) ∧ Below w.heap.size w w' := by
  obtain ⟨i0, hi0, hz0, hz1, hz2⟩ := info_parts Tryd.infoString
  unfold rspV
  go_enter Tryd.func19, Tryd.ntmps19
  go_upto_region 1 with fail
  have B0 : BlkR (w.alloc (.cells #[.int .i64 s, .slice A l.length cap, .string (S b)] 24)) w.heap.size (.int .i64 s) (.slice A l.length cap) (.string (S b)) := heap_alloc_new w _
  have hb0 : Below w.heap.size w (w.alloc (.cells #[.int .i64 s, .slice A l.length cap, .string (S b)] 24)) := (Below.refl _ _).alloc (Nat.le_refl _) _
  have hl0 := hl.next hb0
  have hs0 : w.heap.size < (w.alloc (.cells #[.int .i64 s, .slice A l.length cap, .string (S b)] 24)).heap.size := by simp
  generalize (w.alloc (.cells #[.int .i64 s, .slice A l.length cap, .string (S b)] 24)) = w0 at B0 hb0 hl0 hs0 ⊢
  clear hl
  go_wp2
  go_loopw [5, 6] (fun x i wr => ∃ (k : Nat) (ps : List (List UInt8)), k ≤ l.length ∧ i = .int .i64 k ∧ ps = Rsp.get nm (l.take k) ∧ SRow w0.heap.size wr x ps ∧ Below w0.heap.size w0 wr) (fun _ i _ => l.length - (intOf i).toNat)
  case atStart => exact ⟨0, [], Nat.zero_le _, rfl, rfl, World.ownsRow_nil _ _ _ _, Below.refl _ _⟩
  case round =>
    obtain ⟨k, ps, hk, rfl, hps, hrow, hb⟩ := hrel
    have hbs := hb.size
    have hpl : ps.length ≤ 1000 := by
      rw [hps]
      have h1 := Rsp.get_len nm (l.take k)
      have h2 : (l.take k).length ≤ k := List.length_take_le _ _
      omega
    have HPS := Lib.hid hps
    clear hps
    have h63 : ps.length + 1 ≤ maxLen := by unfold maxLen; omega
    have B3 : BlkR wr w.heap.size (.int .i64 s) (.slice A l.length cap) (.string (S b)) := (hb.block _ hs0).trans B0
    have c1 := B3.c1
    clear B3
    by_cases hlt : k < l.length
    · obtain ⟨ab, off, rfl, hbb, hcl⟩ := hl0 (by omega)
      obtain ⟨p0', p1'⟩ := hcl k hlt
      have hA : ∀ w' : World, Calls Tryd.prog 39 #[.string (S l[k].1), .string (S nm)] w' fun e w'' => e = .returned (.bool (Req.alike l[k].1 nm)) ∧ w' = w'' := fun w' => refAlike_s (S l[k].1) (S nm) w' (hq k hlt)
      have HS := Lib.hid (show Rsp.get nm (l.take (k + 1)) = if Req.alike l[k].1 nm = true then ps ++ [l[k].2] else ps by
        rw [List.take_succ_eq_append_getElem hlt, Rsp.get_snoc, HPS.out])
      clear hcl hq
      obtain ⟨n, hn⟩ : ∃ n, n = l[k].1 := ⟨_, rfl⟩
      obtain ⟨v, hv⟩ : ∃ v, v = l[k].2 := ⟨_, rfl⟩
      rw [← hn] at p0' hA HS
      rw [← hv] at p1' HS
      clear hn hv
      have p0 : wr.cell? ⟨ab, off + k * 2, none⟩ = some (.string (S n)) := (hb.cell (p := ⟨ab, off + k * 2, none⟩) hbb).trans p0'
      have p1 : wr.cell? ⟨ab, off + k * 2 + 1, none⟩ = some (.string (S v)) := (hb.cell (p := ⟨ab, off + k * 2 + 1, none⟩) hbb).trans p1'
      clear p0' p1'
      have j0 : (0 : Int) ≤ (k : Int) := by omega
      have j1 : (k : Int) < (l.length : Int) := by omega
      cases h3 : Req.alike n nm with
      | true =>
        rw [h3, if_pos rfl] at HS
        rw [h3] at hA
        clear h3
        go_wp2_with fail
        refine (hA _).mono ?_
        rintro e w3 ⟨rfl, rfl⟩
        go_wp2_with (at_builtin; refine wpList_append_lies _ rfl (.tmp 24) (.tmp 31) _ rfl w0.heap.size 9 i0 _ 1 16 Tryd.underlying32 hi0 hz0 hz1 hz2 rfl (by omega) _ ps.length (strsV ps) rfl (hrow.alloc _) ⟨wr.heap.size, 0, none⟩ 1 1 [.string (S (v))] rfl rfl (World.news_of_block (cs := #[.string (S (v))]) (t := 9) (fr := (0, 0)) (heap_alloc_new wr _)) (by simp [Value.oneCell']) (by omega) (by omega) (by omega) (by simp; omega) (wr.heap.size + 1) (by simp) ?_; intro gg cap w1 hown1 hgrow hat hlt1)
        go_roundw
        case rel => exact ⟨k + 1, ps ++ [v], by omega, by go_num, HS.out.symm, srow_snoc hown1, (hb.alloc hbs _).grown hgrow (by simp; omega) (fun k hk => (hrow.lt k hk).1)⟩
        case measure => simp [intOf]; omega
      | false =>
        rw [h3, if_neg (by decide)] at HS
        rw [h3] at hA
        clear h3
        go_wp2_with fail
        refine (hA _).mono ?_
        rintro e w3 ⟨rfl, rfl⟩
        go_wp2
        go_roundw
        case rel => exact ⟨k + 1, ps, by omega, by go_num, HS.out.symm, hrow, hb⟩
        case measure => simp [intOf]; omega
    · have HE := Lib.hid (show ps = Rsp.get nm l by rw [HPS.out, List.take_of_length_le (by omega)])
      go_wp2
      go_ret
      exact ⟨_, rfl, HE.out ▸ own_mono hrow hb0.size, hb0.trans (hb.mono hb0.size)⟩
end Go.Proofs.YtehgigfngelkjaaDoor
