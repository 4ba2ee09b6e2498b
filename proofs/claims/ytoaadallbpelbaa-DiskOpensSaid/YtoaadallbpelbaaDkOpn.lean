/- What the statement on disks that are opened answers: true. No condition. -/
import Derived.Test.YtoaadallbpelbaaDkRo
import Derived.Test.YtoaadallbpelbaaDkSt
import Derived.Deep.DeepCutAuto
namespace Go.Proofs.Ytoaadallbpelbaa
set_option maxRecDepth 8000
open Go.RowKit

namespace Dk
theorem opened_kept {d : D} (h : Ok d) : opened d.kept = ⟨d.n, d.kept, [], [], -1⟩ := by
  have h1 := h.n
  have h2 := h.kept
  unfold opened
  rw [h2, show min (32 * d.n / 32) 512 = d.n by omega, List.take_of_length_le (by omega)]
end Dk

set_option maxHeartbeats 1600000 in
theorem opens_out (w : World) (A Al : Option Addr) (ca cl : Nat) (b : List UInt8) (l : List Dk.O) (hO : OpsIn w w.heap.size Al l) (hll : l.length ≤ 9223372036854775807) (h : Dk.fewB l = false ∨ 3000 < b.length ∧ b.length ≤ 16384) :
    Calls Try.prog 4 #[.slice A b.length ca, .slice Al l.length cl] w (AwakePost w) := by
  cases hf : Dk.fewB l with
  | false =>
    clear h
    go_enter Try.func4, Try.ntmps4
    go_wp2_with fail
    refine (awake_any w).mono ?_
    rintro e w1 ⟨rfl, hb1⟩
    have hFew := few_any w1 w.heap.size Al cl l (hO.keep hb1) hll
    rw [hf] at hFew
    go_wp2_with fail
    refine hFew.mono ?_
    rintro e w' ⟨rfl, rfl⟩
    clear hFew
    go_wp2_with fail
    go_ret
    exact ⟨rfl, hb1⟩
  | true =>
    have h1 : (3000 : Int) < (b.length : Int) := by rcases h with h | h; (· rw [hf] at h; cases h); (· omega)
    have h2 : (b.length : Int) ≤ 16384 := by rcases h with h | h; (· rw [hf] at h; cases h); (· omega)
    clear h
    go_enter Try.func4, Try.ntmps4
    go_wp2_with fail
    refine (awake_any w).mono ?_
    rintro e w1 ⟨rfl, hb1⟩
    have hFew := few_any w1 w.heap.size Al cl l (hO.keep hb1) hll
    rw [hf] at hFew
    go_wp2_with fail
    refine hFew.mono ?_
    rintro e w' ⟨rfl, rfl⟩
    clear hFew
    go_wp2_with fail
    go_ret
    exact ⟨rfl, hb1⟩

set_option maxHeartbeats 3200000 in
theorem opens_in (w : World) (A Al : Option Addr) (ca cl : Nat) (b : List UInt8) (l : List Dk.O) (hA : BInB w w.heap.size A b) (hbl : b.length ≤ ca) (hca : ca ≤ 9223372036854775807) (hnil : A = none → ca = 0) (hO : OpsIn w w.heap.size Al l) (hll : l.length ≤ 9223372036854775807) (hf : Dk.fewB l = true) (h : ¬ (3000 < b.length ∧ b.length ≤ 16384)) :
    Calls Try.prog 4 #[.slice A b.length ca, .slice Al l.length cl] w (AwakePost w) := by
  have hfew : (∀ o ∈ l, o.b.length ≤ 100 ∧ o.p.length ≤ 100) ∧ l.length ≤ 40 := by
    have hf' := hf
    unfold Dk.fewB Dk.okO at hf'
    simp at hf'
    exact ⟨fun o ho => hf'.1 o ho, hf'.2⟩
  obtain ⟨hf1, hf2⟩ := hfew
  have HF1 := Lib.hid hf1
  obtain ⟨n, hn⟩ : ∃ n, n = l.length := ⟨_, rfl⟩
  have HN := Lib.hid hn
  have hFew0 : ∀ w1, Below w.heap.size w w1 → Calls Try.prog 10 #[.slice Al n cl] w1 fun e w' => e = .returned (.bool true) ∧ w1 = w' := fun w1 hb1 => by
    have := few_any w1 w.heap.size Al cl l (hO.keep hb1) hll
    rw [hf] at this
    rw [hn]
    exact this
  rw [← hn] at hf2 ⊢
  obtain ⟨L, hL⟩ : ∃ L, L = b.length := ⟨_, rfl⟩
  have HOP : Hid (∀ w1, Below w.heap.size w w1 → Calls Try.prog 27 #[.slice A L ca] w1 (MadePost w1 (Dk.opened b)) ∧ Calls Try.prog 28 #[.slice A L ca] w1 (MadeR w1 (Dk.opened b))) := Lib.hid (fun w1 hb1 => by
    rw [hL]
    exact ⟨open_any w1 A ca b ((hA.keep hb1).bin hb1.size) hbl hca, ref_open_any w1 A ca b ((hA.keep hb1).bin hb1.size) hbl hca hnil⟩)
  rw [← hL] at h ⊢
  have HO := Lib.hid hO
  clear hf1 hn hL hO hA hnil hbl hca hf
  obtain ⟨d0, hd0⟩ : ∃ d0, d0 = Dk.opened b := ⟨_, rfl⟩
  rw [← hd0] at HOP
  have HD0S : Hid (d0.st.length = 0) := Lib.hid (by rw [hd0]; rfl)
  clear hd0
  go_enter Try.func4, Try.ntmps4
  go_wp2_with fail
  refine (awake_any w).mono ?_
  rintro e w1 ⟨rfl, hb1⟩
  go_wp2_with fail
  refine (hFew0 w1 hb1).mono ?_
  rintro e w' ⟨rfl, rfl⟩
  clear hFew0
  have hgo : ((decide ((3000 : Int) < (L : Int))) = true → decide ((L : Int) ≤ 16384) = false) := fun h1 => by
    have h1 : (3000 : Int) < (L : Int) := of_decide_eq_true h1
    simp
    omega
  dsimp only
  go_upto_region 3 with fail
  go_cut [25] (fun t wx => t = .bool false ∧ wx = w1)
  case first =>
    by_cases h1 : (3000 : Int) < (L : Int)
    · have h2 : ¬ (L : Int) ≤ 16384 := by omega
      clear hgo h
      go_wp2_with fail
      go_meet
      exact ⟨rfl, rfl⟩
    · clear hgo h
      go_wp2_with fail
      go_meet
      exact ⟨rfl, rfl⟩
  case rest =>
  obtain ⟨hc1, hc2⟩ := hcut
  subst hc1
  subst hc2
  clear hgo h
  have hOp := (HOP.out _ hb1).1
  go_wp2_with fail
  refine hOp.mono ?_
  intro e w2 hm
  obtain ⟨P, rfl, hsd2, hb2⟩ := hm.sd
  clear hm hOp
  have HB2 := Lib.hid (hb1.trans (hb2.mono hb1.size))
  have hOr := (HOP.out _ HB2.out).2
  go_wp2_with fail
  refine hOr.mono ?_
  rintro e w3 ⟨rb, rfl, hr3, ht3, hb3, hF3⟩
  have HB3 := Lib.hid (HB2.out.trans (hb3.mono HB2.out.size))
  have hsd3 := (hsd2.keep hb3).base hb1.size
  have hBY : ∀ wx, Below w3.heap.size w3 wx → Calls Try.prog 24 #[.pointer (some ⟨P, 0, none⟩)] wx (fun e w' => ∃ A c, e = .returned (.slice A d0.kept.length c) ∧ BIn w' A d0.kept ∧ Below w3.heap.size w3 w') := fun wx hx => by
    refine (bytes_sd (hsd3.keep hx)).mono ?_
    rintro e w' ⟨⟨A, c, rfl, hown⟩, hb⟩
    exact ⟨A, c, rfl, own_in hown, hx.trans (hb.mono hx.size)⟩
  have hRK : ∀ wx, Below w3.heap.size w3 wx → RAt wx rb d0 := fun wx hx => hr3.same (fun x hx' => hx.block x (ht3.all x hx'))
  have hSM : ∀ wx A c, Below w3.heap.size w3 wx → BIn wx A d0.kept → Calls Try.prog 21 #[.slice A d0.kept.length c, .slice rb.K d0.kept.length rb.cK] wx (fun e w' => e = .returned (.bool true) ∧ wx = w') := fun wx A c hx hin => by
    have := same_any wx A rb.K d0.kept d0.kept c rb.cK hin (own_in (hRK wx hx).kept)
    rw [decide_eq_true rfl] at this
    exact this
  have hLN : ∀ wx, Below w3.heap.size w3 wx → Calls Try.prog 25 #[.pointer (some ⟨P, 0, none⟩)] wx fun e w' => e = .returned (.int .i64 d0.n) ∧ wx = w' := fun wx hx => len_sd (hsd3.keep hx)
  have hLR : ∀ wx, Below w3.heap.size w3 wx → Calls Try.prog 26 #[.pointer (some ⟨rb.P, 0, none⟩)] wx fun e w' => e = .returned (.int .i64 d0.n) ∧ wx = w' := fun wx hx => ref_len_any wx rb d0 (hRK wx hx)
  have hCE : ∀ wx, Below w3.heap.size w3 wx → wx.cell? ⟨rb.P, 0, none⟩ = some (.slice rb.K d0.kept.length rb.cK) := fun wx hx => (hRK wx hx).c.1
  obtain ⟨M, hM⟩ : ∃ M, M = d0.kept.length := ⟨_, rfl⟩
  obtain ⟨PR, hPR⟩ : ∃ PR, PR = rb.P := ⟨_, rfl⟩
  obtain ⟨nn, hnn⟩ : ∃ nn, nn = d0.n := ⟨_, rfl⟩
  rw [← hM] at hBY hSM hCE
  rw [← hPR] at hLR hCE
  rw [← hnn] at hLN hLR
  have HBY := Lib.hid hBY
  have HSM := Lib.hid hSM
  have HLN := Lib.hid hLN
  have HLR := Lib.hid hLR
  have HCE := Lib.hid hCE
  have HSD3 := Lib.hid hsd3
  clear hBY hSM hLN hLR hCE hRK hr3 ht3 hF3 hsd2 hM hnn hOr hb2 hsd3 hb3
  rw [← hPR]
  clear hPR
  have nne : ((nn : Int) != (nn : Int)) = false := by simp
  have HB1 := Lib.hid hb1
  clear hb1
  go_upto_region 7 with fail
  go_region_held3 (fun wx => wx.cell? ⟨PR, 0, none⟩ = some (.slice rb.K M rb.cK) ∧ Below w3.heap.size w3 wx)
    (first
      | exact ⟨HCE.out _ hb5, hb5⟩
      | exact ⟨HCE.out _ (Below.drew (Below.refl _ _)), Below.drew (Below.refl _ _)⟩)
    (first
      | (go_at_call 24; refine (HBY.out _ (Below.drew (Below.refl _ _))).mono ?_; rintro e w5 ⟨A5, c5, rfl, hin5, hb5⟩)
      | (go_at_call 21; refine (HSM.out _ A5 c5 hb5 hin5).mono ?_; rintro e w6 ⟨rfl, rfl⟩)
      | (go_at_call 25; refine (HLN.out _ hb5).mono ?_; rintro e w7 ⟨rfl, rfl⟩)
      | (go_at_call 26; refine (HLR.out _ hb5).mono ?_; rintro e w8 ⟨rfl, rfl⟩))
  try clear hH
  have hsd5 := HSD3.out.keep hb5
  have HB5 := Lib.hid (HB3.out.trans (hb5.mono HB3.out.size))
  obtain ⟨base, hbase⟩ : ∃ base, base = w.heap.size := ⟨_, rfl⟩
  rw [← hbase] at hsd5 HB5
  have HBS := Lib.hid hbase
  clear HBY HSM HLN HLR HCE HSD3 hin5 hb5 HB1 HB2 HB3 nne hbase
  clear HOP
  go_wp2_with fail
  go_loopw [9] (fun iv wr => BehindRel w base P n d0 l iv wr) (fun iv _ => n - (intOf iv).toNat)
  case atStart => exact ⟨0, Nat.zero_le _, rfl, hsd5, HB5.out⟩
  case round =>
    obtain ⟨k, hk, rfl, hsdr, hbr⟩ := hrel
    by_cases hlt : k < n
    · have hkl : k < l.length := by have := HN.out; omega
      have hO := HO.out.keep (by rw [← HBS.out]; exact hbr)
      obtain ⟨bb, off, rfl, hbl, hc⟩ := hO (by omega)
      obtain ⟨m, hm, hin⟩ := hc k hkl
      have HSN : Hid (Dk.run d0 (l.take (k + 1)) = (Dk.run d0 (l.take k)).ex l[k]) := Lib.hid (by rw [List.take_succ_eq_append_getElem hkl, Dk.run_snoc])
      have hst : (Dk.run d0 (l.take k)).st.length ≤ 1048575 := by
        have h1 := Dk.run_st d0 (l.take k)
        rw [HD0S.out, List.length_take] at h1
        omega
      have hok := HF1.out l[k] (List.getElem_mem hkl)
      obtain ⟨o, ho⟩ : ∃ o, o = l[k] := ⟨_, rfl⟩
      rw [← ho] at hm hin HSN hok
      obtain ⟨dk, hdk⟩ : ∃ dk, dk = Dk.run d0 (l.take k) := ⟨_, rfl⟩
      rw [← hdk] at hsdr HSN hst
      have hpl : o.p.length ≤ 1048576 := by omega
      have hbsz : base ≤ wr.heap.size := by
        obtain ⟨a, _, _, ht, hF⟩ := hsdr
        have h1 := ht.all a.P ((mem_F a _).2 (.inl rfl))
        have h2 := hF a.P ((mem_F a _).2 (.inl rfl))
        omega
      have hin2 : OpIn wr base o m := by rw [HBS.out]; exact hin
      have hdo := do_any base wr P dk o m hsdr hbsz hst hin2 hpl
      have hrg : wr.rangeAt bb (off + k * 4) (opCells o m) := fun j v hv => by rw [Nat.add_assoc]; exact hm j v hv
      have h1k : (0 : Int) ≤ (k : Int) := by omega
      have hkI : (k : Int) < (n : Int) := by omega
      clear ho hdk hkl hO hc hm hin hok hsdr hst hin2 hbl
      go_wp2_with ((with_reducible refine wpList_load_mid (op := ⟨some 60, _, _, _, _, _⟩) rfl 32 _ rfl bb (off + k * 4) ?_ (opCells o m) _ hrg Try.underlying32 rfl (by kernel_rfl) ?_); exact rfl)
      refine hdo.mono ?_
      rintro e w2 ⟨rfl, hs2, hb2⟩
      have HS2 : Hid (BehindRel w base P n d0 l (.int .i64 ((k + 1 : Nat) : Int)) w2) := Lib.hid ⟨k + 1, by omega, rfl, by rw [HSN.out]; exact hs2, hbr.trans hb2⟩
      clear hs2 hb2 hdo hrg hbr
      go_wp2_with fail
      go_roundw
      case rel => exact HS2.out
      case measure => simp [intOf]; omega
    · have hkI : ¬ (k : Int) < (n : Int) := by omega
      obtain ⟨dl, hdl⟩ : ∃ dl, dl = Dk.run d0 (l.take k) := ⟨_, rfl⟩
      rw [← hdl] at hsdr
      have hbsz : base ≤ wr.heap.size := by have h1 := hbr.size; have h2 := HBS.out; omega
      have HBR := Lib.hid hbr
      have hBy := bytes_sd hsdr
      have hok := hsdr.ok
      have hko := Dk.opened_kept hok
      obtain ⟨M2, hM2⟩ : ∃ M2, M2 = dl.kept.length := ⟨_, rfl⟩
      clear hdl hbr
      go_wp2_with fail
      refine hBy.mono ?_
      rintro e w6 ⟨⟨A6, c6, rfl, hown6⟩, hb6⟩
      have hcap := own_cap hown6
      have hop := open_any w6 A6 c6 dl.kept (own_in hown6) hcap.1 hcap.2
      rw [hko] at hop
      have hsd6 := hsdr.keep hb6
      clear hBy hown6 hcap hko hsdr
      go_wp2_with fail
      refine hop.mono ?_
      intro e w7 hm7
      obtain ⟨Q, rfl, hsd7, hb7⟩ := hm7.sd
      have hsd7b := hsd6.keep hb7
      have HB7 := Lib.hid (hb6.trans (hb7.mono hb6.size))
      clear hop hm7 hsd6 hb6 hb7
      go_wp2_with fail
      refine (bytes_sd hsd7).mono ?_
      dsimp only
      rintro e w8 ⟨⟨A8, c8, rfl, hown8⟩, hb8⟩
      have hsd8 := hsd7.keep hb8
      have hsd8b := hsd7b.keep hb8
      have HB8 := Lib.hid (HB7.out.trans (hb8.mono HB7.out.size))
      have HIN8 := Lib.hid (own_in hown8)
      clear hsd7 hsd7b hown8 hb8
      go_wp2_with fail
      refine (bytes_sd hsd8b).mono ?_
      rintro e w9 ⟨⟨A9, c9, rfl, hown9⟩, hb9⟩
      have hsd9 := hsd8.keep hb9
      have HB9 := Lib.hid (HB8.out.trans (hb9.mono HB8.out.size))
      have hSm := same_any w9 A8 A9 dl.kept dl.kept c8 c9 (HIN8.out.keep hb9) (own_in hown9)
      rw [decide_eq_true rfl] at hSm
      clear hown9 hb9 hsd8 hsd8b
      go_wp2_with fail
      refine hSm.mono ?_
      rintro e w' ⟨rfl, rfl⟩
      have hSg := staged_sd hsd9
      dsimp only at hSg
      clear hSm
      go_wp2_with (refine hSg.mono ?_; rintro e w' ⟨rfl, rfl⟩)
      go_ret
      exact ⟨rfl, by rw [← HBS.out]; exact HBR.out.trans (HB9.out.mono hbsz)⟩

/-- THE STATEMENT's CALL, at any input. -/
theorem diskOpens_any (w : World) (A Al : Option Addr) (ca cl : Nat) (b : List UInt8) (l : List Dk.O) (hA : BInB w w.heap.size A b) (hbl : b.length ≤ ca) (hca : ca ≤ 9223372036854775807) (hnil : A = none → ca = 0) (hO : OpsIn w w.heap.size Al l) (hll : l.length ≤ 9223372036854775807) :
    Calls Try.prog 4 #[.slice A b.length ca, .slice Al l.length cl] w (AwakePost w) := by
  by_cases h : Dk.fewB l = false ∨ 3000 < b.length ∧ b.length ≤ 16384
  · exact opens_out w A Al ca cl b l hO hll h
  · refine opens_in w A Al ca cl b l hA hbl hca hnil hO hll ?_ (fun h' => h (.inr h'))
    cases hf : Dk.fewB l with
    | true => rfl
    | false => exact absurd (.inl hf) h
end Go.Proofs.Ytoaadallbpelbaa
