/- What package record's Encode answers, for any record with a name and a parent of at most 2^30 bytes. -/
import Derived.Test.YtfeaonbeklmfgaaGreatDoorRkB
namespace Go.Proofs.YtfeaonbeklmfgaaGreatDoor
set_option maxRecDepth 8000
open Go.RowKit

def encV (r : Rk.R) : Value := if Rk.right r then .tuple #[.string (S (Rk.enc r)), .int .i64 0] else .tuple #[.string ⟨#[]⟩, .int .i64 1]
set_option maxHeartbeats 3200000 in
theorem recEncode_any (r : Rk.R) (hn : r.name.length ≤ 1073741824) (hp : r.parent.length ≤ 1073741824) (w : World) (hE : EnvT w) :
    Calls Tryz.prog 46 #[recV r] w fun e w' => e = .returned (encV r) ∧ Below w.heap.size w w' := by
  have HC := recAt_alloc w r
  have hR := fun w' h => recRight_any r hn hp w' h
  obtain ⟨wb, hwb⟩ : ∃ wb, wb = w.alloc (.cells (recCs r) 30) := ⟨_, rfl⟩
  have hbb : Below w.heap.size w wb := by rw [hwb]; exact (Below.refl _ _).alloc (Nat.le_refl _) _
  have hEb := hE.next hbb
  have hsz : wb.heap.size = w.heap.size + 1 := by rw [hwb]; simp
  rw [← hwb, ← hsz] at HC
  cases hr : Rk.right r with
  | false =>
    rw [hr] at hR
    have HF : Hid (encV r = .tuple #[.string ⟨#[]⟩, .int .i64 1]) := Lib.hid (by unfold encV; rw [hr]; rfl)
    generalize encV r = E at HF ⊢
    obtain ⟨kind, name, parent, user, service, url, made, used, uses, fresh⟩ := r
    unfold recCs at hwb
    unfold recV at hR ⊢
    dsimp only at hwb hR ⊢
    go_enter Tryz.func46, Tryz.ntmps46
    go_wp2_with fail
    rw [← hwb]
    refine (hR _ hEb).mono ?_
    rintro _ w1 ⟨rfl, hb1⟩
    go_wp2_with fail
    go_ret2
    exact ⟨by rw [HF.out]; rfl, hbb.trans (hb1.mono hbb.size)⟩
  | true =>
    have hok := (Rk.right_iff r).1 hr
    rw [hr] at hR
    have HF : Hid (encV r = .tuple #[.string (S (Rk.enc r)), .int .i64 0]) := Lib.hid (by unfold encV; rw [hr]; rfl)
    have HOK := Lib.hid hok
    have hk := Rk.comes_kind hok.cm
    have hs0 := hok.s0
    have hs1 := hok.s1
    have HEN : Hid (Rk.enc r = Rk.head r ++ Rk.be 8 r.made.toNat ++ Rk.be 8 r.used.toNat ++ Rk.txt r.parent ++ Rk.txt r.user ++ Rk.txt r.service ++ Rk.txt r.url) := Lib.hid rfl
    have hm0 := hok.m0
    have hmu := hok.mu
    have hut := hok.ut
    generalize encV r = E at HF ⊢
    obtain ⟨kind, name, parent, user, service, url, made, used, uses, fresh⟩ := r
    unfold recCs at hwb
    unfold recV at hR ⊢
    dsimp only at hwb hR hk hs0 hs1 hm0 hmu hut hn hp HEN ⊢
    clear hok hr
    obtain ⟨K, rfl⟩ := Int.eq_ofNat_of_zero_le (show 0 ≤ kind by omega)
    obtain ⟨M, rfl⟩ := Int.eq_ofNat_of_zero_le hm0
    obtain ⟨U, rfl⟩ := Int.eq_ofNat_of_zero_le (show 0 ≤ used by omega)
    obtain ⟨X, rfl⟩ := Int.eq_ofNat_of_zero_le hs0
    go_enter Tryz.func46, Tryz.ntmps46
    go_wp2_with fail
    rw [← hwb]
    refine (hR _ hEb).mono ?_
    rintro _ w1 ⟨rfl, hb1⟩
    obtain ⟨c0, -, -, -, -, -, -, -, c8, c9⟩ := HC.out w1 hb1
    have HB1 := Lib.hid hb1
    have hba : Below w1.heap.size w1 (w1.alloc (.cells #[.int .u8 (K : Int), .int .u8 (X : Int), .int .u8 0] 5)) := (Below.refl _ _).alloc (Nat.le_refl _) _
    have hrow : (w1.alloc (.cells #[.int .u8 (K : Int), .int .u8 (X : Int), .int .u8 0] 5)).ownsRow w1.heap.size 5 1 (.slice (some ⟨w1.heap.size, 0, none⟩) 3 3) 3 [.int .u8 (K : Int), .int .u8 (X : Int), .int .u8 0] :=
      ⟨rfl, .inr ⟨w1.heap.size, 3, _, rfl, Nat.le_refl _, heap_alloc_new w1 _, Nat.le_refl _, by unfold maxLen; omega, rfl, rfl⟩⟩
    obtain ⟨-, -, -, -, -, -, -, -, -, d9⟩ := HC.out _ (hb1.trans (hba.mono hb1.size))
    have hlt0 : w.heap.size < w1.heap.size := Nat.lt_of_lt_of_le (by rw [hsz]; exact Nat.lt_succ_self _) hb1.size
    have HBW1 := Lib.hid (hbb.trans (hb1.mono hbb.size))
    clear hb1 hwb hbb hsz hR
    have hkb : B (UInt8.ofNat K) = .int .u8 (K : Int) := by unfold B; rw [UInt8.toNat_ofNat']; congr 2; omega
    have hxb : B (UInt8.ofNat X) = .int .u8 (X : Int) := by unfold B; rw [UInt8.toNat_ofNat']; congr 2; omega
    obtain ⟨H, hH⟩ : ∃ H, H = Rk.head ⟨(K : Int), name, parent, user, service, url, (M : Int), (U : Int), (X : Int), fresh⟩ := ⟨_, rfl⟩
    have hHd : H = [UInt8.ofNat K, UInt8.ofNat X, if fresh then 1 else 0] := hH
    rw [← hH] at HEN
    clear hH
    go_upto_region 4 with fail
    generalize w1.alloc (.cells #[.int .u8 (K : Int), .int .u8 (X : Int), .int .u8 0] 5) = w2 at hba hrow d9 ⊢
    go_upto_if 18 with fail
    go_cut [19, 20] (fun _ _ wx => Row w1.heap.size wx (.slice (some ⟨w1.heap.size, 0, none⟩) 3 3) H ∧ Below w1.heap.size w1 wx)
    case first =>
      have hlt2 : w1.heap.size < w2.heap.size := (World.ownsRow.lt hrow w1.heap.size rfl).2
      have hfr := World.ownsRow.frozenAt hrow 2
      have hc2 := World.ownsRow.cellAt hrow 2 (by omega)
      have hst := Lib.hid (hrow.stored 2 (.int .u8 1))
      cases fresh with
      | true =>
        go_wp2_with fail
        go_meet
        refine ⟨?_, hba.grown hst.out.2 hba.size (fun q hq => Nat.le_of_eq (by simpa [Value.ownBlock] using hq))⟩
        have h1 := hst.out.1
        subst hHd
        unfold Row
        show World.ownsRow _ _ _ _ _ 3 [B (UInt8.ofNat K), B (UInt8.ofNat X), B 1]
        rw [hkb, hxb]
        exact h1
      | false =>
        go_wp2_with fail
        go_meet
        refine ⟨?_, hba⟩
        subst hHd
        unfold Row
        show w2.ownsRow _ _ _ _ 3 [B (UInt8.ofNat K), B (UInt8.ofNat X), B 0]
        rw [hkb, hxb]
        exact hrow
    case rest =>
    clear hba hrow d9 c0 c8 c9 hkb hxb
    obtain ⟨hrow, hb3⟩ := hcut
    have hHl : H.length = 3 := by rw [hHd]; rfl
    have hKB : Hid (∀ w', Below w1.heap.size w1 w' → RecAt w' w.heap.size ⟨(K : Int), name, parent, user, service, url, (M : Int), (U : Int), (X : Int), fresh⟩) := Lib.hid fun w' hb => HC.out w' (HB1.out.trans (hb.mono HB1.out.size))
    have hP1 := Rk.Ok.parent HOK.out
    have hU1 := HOK.out.us
    have hS1 := HOK.out.sv
    have hL1 := HOK.out.ur
    dsimp only at hP1 hU1 hS1 hL1
    clear HC HOK HB1 hHd hE hEb hn hp hk hs0 hs1
    obtain ⟨-, -, -, -, -, -, e6, e7, -, -⟩ := hKB.out _ hb3
    dsimp only at e6 e7
    have hM63 : M < 9223372036854775808 := by omega
    have hU63 : U < 9223372036854775808 := by omega
    rw [Int.toNat_natCast, Int.toNat_natCast] at HEN
    have HR3 : Hid (Row w1.heap.size wc.drew (.slice (some ⟨w1.heap.size, 0, none⟩) 3 3) H) := Lib.hid hrow
    have HB3 := Lib.hid hb3.drew
    clear hrow hb3 hm0 hmu hut
    go_upto_region 6 with fail
    go_region_held3 (fun wx => wx.cell? ⟨w.heap.size, 6, none⟩ = some (.int .i64 (M : Int)) ∧ wx.cell? ⟨w.heap.size, 7, none⟩ = some (.int .i64 (U : Int)))
      (first
        | exact ⟨e6, e7⟩
        | exact ⟨(hb5.cell (p := ⟨w.heap.size, 6, none⟩) hlt0).trans e6, (hb5.cell (p := ⟨w.heap.size, 7, none⟩) hlt0).trans e7⟩
        | exact ⟨(hb4.cell (p := ⟨w.heap.size, 6, none⟩) hlt0).trans e6, (hb4.cell (p := ⟨w.heap.size, 7, none⟩) hlt0).trans e7⟩)
      (first
        | (go_at_call 64; refine (putTime_any _ w1.heap.size _ (H ++ Rk.be 8 M) U hU63 hrow4 (by rw [List.length_append, Rk.be_len]; omega) (Nat.le_trans HB3.out.size hb4.size)).mono ?_; rintro e w5 ⟨v5, rfl, hrow5, hb5'⟩; have hb5 := hb4.trans hb5')
        | (go_at_call 64; refine (putTime_any _ w1.heap.size _ H M hM63 HR3.out (by omega) HB3.out.size).mono ?_; rintro e w4 ⟨v4, rfl, hrow4, hb4⟩))
    obtain ⟨P, hP⟩ : ∃ P, P = H ++ Rk.be 8 M ++ Rk.be 8 U := ⟨_, rfl⟩
    have hPl : P.length = 19 := by rw [hP, List.length_append, List.length_append, Rk.be_len, Rk.be_len, hHl]
    rw [← hP] at hrow5 HEN
    have HB5 := Lib.hid (HB3.out.trans hb5)
    obtain ⟨-, -, f2, f3, f4, f5, -, -, -, -⟩ := hKB.out _ HB5.out
    dsimp only at f2 f3 f4 f5
    obtain ⟨T, hT⟩ : ∃ T, T = [parent, user, service, url] := ⟨_, rfl⟩
    have hTl : T.length = 4 := by rw [hT]; rfl
    have hTf : (T.flatMap Rk.txt).length ≤ 259 := by
      rw [hT]
      unfold Rk.txt
      simp
      omega
    have hTt : ∀ k (hk : k < T.length), T[k].length ≤ 100 := by
      subst hT
      intro k hk
      have h4 : k = 0 ∨ k = 1 ∨ k = 2 ∨ k = 3 := by simp at hk; omega
      rcases h4 with rfl | rfl | rfl | rfl
      · show parent.length ≤ 100; omega
      · show user.length ≤ 100; omega
      · exact hS1
      · exact hL1
    have HENC : Hid (E = .tuple #[.string (S (P ++ T.flatMap Rk.txt)), .int .i64 0]) := Lib.hid (by
      rw [HF.out, HEN.out, hT]
      simp)
    clear hb4 hb5' hb5 hrow4 HR3 HB3 HEN HF hKB hM63 hU63 e6 e7 hP hHl hP1 hU1 hS1 hL1
    try clear hHeld
    go_wp2_with fail
    have hbG : Below w5.heap.size w5 (w5.alloc (.cells #[.string (S parent), .string (S user), .string (S service), .string (S url)] 9)) := (Below.refl _ _).alloc (Nat.le_refl _) _
    have hblk : (w5.alloc (.cells #[.string (S parent), .string (S user), .string (S service), .string (S url)] 9)).heap[w5.heap.size]? = some (.cells #[.string (S parent), .string (S user), .string (S service), .string (S url)] 9 (0, 0)) := heap_alloc_new w5 _
    obtain ⟨TC, hTC⟩ : ∃ TC : Array Value, TC = #[.string (S parent), .string (S user), .string (S service), .string (S url)] := ⟨_, rfl⟩
    have hcT : ∀ k (hk : k < T.length), TC[k]? = some (.string (S T[k])) := by
      subst hT
      subst hTC
      intro k hk
      have h4 : k = 0 ∨ k = 1 ∨ k = 2 ∨ k = 3 := by simp at hk; omega
      rcases h4 with rfl | rfl | rfl | rfl <;> rfl
    have HCT := Lib.hid hcT
    rw [← hTC] at hbG hblk ⊢
    have HR5 := Lib.hid (own_below hrow5 hbG : Row w1.heap.size (w5.alloc (.cells TC 9)) v5 P)
    have HB6 := Lib.hid (HB5.out.trans (hbG.mono HB5.out.size))
    generalize hG : w5.heap.size = G at hblk ⊢
    generalize w5.alloc (.cells TC 9) = w6 at hblk HR5 HB6 ⊢
    have HBLK := Lib.hid hblk
    clear hblk hTC hT hcT hbG hrow5 HB5 f2 f3 f4 f5 hG
    go_loopw [4, 38] (fun bv iv wr => ∃ (k : Nat) (b : Value), k ≤ 4 ∧ iv = .int .i64 (k : Int) ∧ bv = b ∧ Row w1.heap.size wr b (P ++ (T.take k).flatMap Rk.txt) ∧ wr.heap[G]? = some (.cells TC 9 (0, 0)) ∧ Below w1.heap.size w1 wr) (fun _ iv _ => 4 - (intOf iv).toNat)
    case atStart => exact ⟨0, _, Nat.zero_le _, rfl, rfl, by rw [List.take_zero, List.flatMap_nil, List.append_nil]; exact HR5.out, HBLK.out, HB6.out⟩
    case round =>
      obtain ⟨k, bv, hk, rfl, hbv, hrow, hblk, hb⟩ := hrel
      replace hbv := hbv.symm
      subst hbv
      by_cases hlt : k < 4
      · have hkT : k < T.length := by omega
        have hc0 := (cell_of_row _ G k _ _ _ hblk).trans (HCT.out k hkT)
        have hFT := Rk.flat_take hkT
        have hxl := hTt k hkT
        have hfl := Rk.flat_len T k
        obtain ⟨x, hx⟩ : ∃ x, x = T[k] := ⟨_, rfl⟩
        rw [← hx] at hc0 hFT hxl
        obtain ⟨Q, hQ⟩ : ∃ Q, Q = P ++ (T.take k).flatMap Rk.txt := ⟨_, rfl⟩
        have hQl : Q.length ≤ 300 := by rw [hQ, List.length_append]; omega
        have HFT : Hid (P ++ (T.take (k + 1)).flatMap Rk.txt = (Q ++ [UInt8.ofNat x.length]) ++ x) := Lib.hid (by rw [hFT, hQ]; simp)
        rw [← hQ] at hrow
        have hxs : ((S x).size : Int) = (x.length : Int) := rfl
        have hb8 : ((x.length : Int)) = ((UInt8.ofNat x.length).toNat : Int) := by rw [UInt8.toNat_ofNat']; omega
        have hkI : (k : Int) < 4 := by omega
        have hkJ : (0 : Int) ≤ (k : Int) := by omega
        have HBC := Lib.hid (bc_one wr _ _ hb8)
        have hba : Below wr.heap.size wr (wr.alloc (.cells #[.int .u8 (x.length : Int)] 5)) := (Below.refl _ _).alloc (Nat.le_refl _) _
        have HRA := Lib.hid (own_below hrow hba : Row w1.heap.size (wr.alloc (.cells #[.int .u8 (x.length : Int)] 5)) bv Q)
        have HBA := Lib.hid (hb.trans (hba.mono hb.size))
        have HBKA := Lib.hid ((hba.block _ (lt_of_blk hblk)).trans hblk)
        clear hrow hb hba hx hQ hFT hb8 hblk hfl
        obtain ⟨i0, hi0, hz0, hz1, hz2⟩ := info_parts Tryz.infoByte
        go_upto_region 11 with (at_builtin; refine wpList_append_bytes ?hw (.tmp 42) (.tmp 46) rfl w1.heap.size bv (some ⟨wr.heap.size, 0, none⟩) 1 1 Q [UInt8.ofNat x.length] rfl rfl rfl HRA.out HBC.out (by simp; omega) HBA.out.size ?_; rotate_right; intro v7 w7 hown7 hgrow7)
        have hb7 : Below w1.heap.size w1 w7 := HBA.out.grown hgrow7 HBA.out.size (fun q hq => (World.ownsRow.lt HRA.out q hq).1)
        have HK7 := Lib.hid (text_kept HRA.out HBKA.out hgrow7)
        have HR7 := Lib.hid hown7
        have HB7 := Lib.hid hb7
        clear hgrow7 hb7 HRA HBC HBA HBKA hown7
        obtain ⟨Q2, hQ2⟩ : ∃ Q2, Q2 = Q ++ [UInt8.ofNat x.length] := ⟨_, rfl⟩
        have hQ2l : Q2.length ≤ 301 := by rw [hQ2, List.length_append]; simp; omega
        rw [← hQ2] at HR7 HFT
        go_wp2_with (at_builtin; refine Lib.wpList_append_own_string _ rfl (.tmp 48) (.tmp 49) 94 9 rfl w1.heap.size 5 i0 Tryz.underlying94 Tryz.underlying9 hi0 hz0 hz1 hz2 v7 Q2.length (Q2.map B) rfl HR7.out (S x) rfl (by rw [S_size]; unfold maxLen; omega) (by rw [S_size]; omega) HB7.out.size ?_; intro v8 w8 hown8 hgrow8 hnil8)
        have hrow8 : Row w1.heap.size w8 v8 (Q2 ++ x) := by
          unfold Row
          rw [List.length_append, List.map_append]
          exact hown8
        rw [← HFT.out] at hrow8
        have hb8 : Below w1.heap.size w1 w8 := HB7.out.grown hgrow8 HB7.out.size (fun q hq => (World.ownsRow.lt HR7.out q hq).1)
        have hK8 := text_kept HR7.out HK7.out hgrow8
        go_roundw
        case rel => exact ⟨k + 1, _, by omega, by go_num, rfl, hrow8, hK8, hb8⟩
        case measure => simp [intOf]; omega
      · have hk4 : k = 4 := by omega
        subst hk4
        rw [List.take_of_length_le (by omega)] at hrow
        have hconv := row_string hrow
        go_wp2_with fail
        go_ret2
        rw [HENC.out]
        exact ⟨rfl, HBW1.out.trans (hb.mono HBW1.out.size)⟩
end Go.Proofs.YtfeaonbeklmfgaaGreatDoor
