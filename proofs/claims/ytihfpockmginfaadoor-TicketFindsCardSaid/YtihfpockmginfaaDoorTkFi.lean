/- The call TicketFinds answers true, for any kinds, draws and texts between them. -/
import Derived.Test.YtihfpockmginfaaDoorTkUn
import Derived.Test.YtihfpockmginfaaDoorTkTl
import Derived.Test.YtihfpockmginfaaDoorTkOp
namespace Go.Proofs.YtihfpockmginfaaDoor
set_option maxRecDepth 8000
open Go.RowKit

/-- 'string([]byte{u})'. -/
theorem run_one (w : World) (u : UInt8) : (convert 36 9 (.slice (some ⟨w.heap.size, 0, none⟩) 1 1)).run Tryd.prog (w.alloc (.cells #[B u] 5)) = .ok (.string (S [u])) (w.alloc (.cells #[B u] 5)) :=
  run_convert_bytes_back (w.alloc (.cells #[B u] 5)) 36 9 5 ⟨w.heap.size, 0, none⟩ 1 [u] Tryd.underlying36 Tryd.underlying5 Tryd.underlying9
    (fun j hj => by
      have h0 : j = 0 := by simp at hj; exact hj
      subst h0
      exact cell_of_row _ w.heap.size 0 _ _ _ (heap_alloc_new w (.cells #[B u] 5)))
/-- A byte that no name has. -/
def junk (c : UInt8) : Bool := decide ((c.toNat < 48 ∨ 57 < c.toNat) ∧ (c.toNat < 97 ∨ 102 < c.toNat) ∧ c.toNat ≠ 45 ∧ (c.toNat < 65 ∨ 90 < c.toNat))

set_option maxHeartbeats 3200000 in
theorem ticketFinds_any (A0 A1 A2 : Option Addr) (c0 c1 c2 : Nat) (ks ds : List Int) (bs : List (List UInt8)) (w : World) (hE : EnvT w)
    (h0 : IC .u8 w w.heap.size A0 ks) (k0 : ∀ z ∈ ks, (Lit.int .u8 z).wf = true) (h1 : IC .u64 w w.heap.size A1 ds) (k1 : ∀ z ∈ ds, (Lit.int .u64 z).wf = true) (h2 : SCells w w.heap.size A2 bs) :
    Calls Tryd.prog 6 #[.slice A0 ks.length c0, .slice A1 ds.length c1, .slice A2 bs.length c2] w (AwakePost w) := by
  have hA := awake_any w hE
  obtain ⟨i0, hi0, hz0, hz1, hz2⟩ := info_parts Tryd.infoString
  by_cases hok : ds.length ≤ 10 ∧ ds.length ≤ ks.length ∧ ds.length ≤ bs.length
  · obtain ⟨q1, q2, q3⟩ := hok
    have e1 : decide ((10 : Int) < (ds.length : Int)) = false := by simp; omega
    have e2 : decide ((ks.length : Int) < (ds.length : Int)) = false := by simp; omega
    have e3 : decide ((bs.length : Int) < (ds.length : Int)) = false := by simp; omega
    have e4 : decide (ks.length < ds.length) = false := by simp; omega
    have e5 : decide (bs.length < ds.length) = false := by simp; omega
    go_enter Tryd.func6, Tryd.ntmps6
    go_upto_region 7 with (go_at_call 8; refine hA.mono ?_; rintro e w1 ⟨rfl, hz⟩; have hEz := hE.next hz)
    have hnil : SRow w.heap.size w1 (.slice none 0 0) [] := World.ownsRow_nil _ _ _ _
    go_loopw [8, 9, 10] (fun vw vs vi wr => ∃ (k : Nat) (names : List (List UInt8)) (txt : List UInt8), vi = .int .i64 k ∧ k ≤ ds.length ∧ vs = .string (S txt) ∧ SRow w.heap.size wr vw names ∧ Below w.heap.size w wr ∧ names.length = k ∧ txt.length ≤ 50 * k ∧ Hid (∀ r, Tk.find (txt ++ r) = names ++ Tk.find r)) (fun _ _ vi _ => ds.length - (intOf vi).toNat)
    case atStart => exact ⟨0, [], [], rfl, by omega, rfl, hnil, hz, rfl, by simp, Lib.hid fun r => rfl⟩
    case round =>
      clear hz hEz hnil hA
      obtain ⟨k, names, txt, rfl, hk, rfl, hrow, hb, hnl, htl, hf⟩ := hrel
      by_cases hlt : k < ds.length
      · obtain ⟨b2, o2, hA2, hlt2, hc2⟩ := h2.at_ hb k (by omega)
        subst hA2
        have hg0 : ∀ w', Below w.heap.size w w' → w'.cell? ⟨b2, o2 + k, none⟩ = some (.string (S bs[k])) := fun w' hb' => by
          obtain ⟨b2', o2', e, _, h⟩ := h2.at_ hb' k (by omega)
          cases e
          exact h
        generalize bs[k] = g at hc2 hg0
        have hgs : ((S g).size : Int) = (g.length : Int) := rfl
        by_cases hgl : g.length ≤ 20
        · have a1 : ∀ w, (Op.stringOp .add (S txt) ⟨#[32]⟩).run Tryd.prog w = .ok (.string (S (txt ++ [32]))) w := fun w => run_add_S w txt [32] (by simp; omega)
          have hgn : (S g).size = g.length := rfl
          obtain ⟨t1, ht1⟩ : ∃ t1, t1 = txt ++ [32] := ⟨_, rfl⟩
          have ht1l : t1.length = txt.length + 1 := by rw [ht1]; simp
          rw [← ht1] at a1
          have HT1 := Lib.hid ht1
          clear ht1
          go_upto_region 13 with fail
          have HG0 := Lib.hid hg0
          clear hg0 a1
          go_loopw [9, 11] (fun vs vj wq => ∃ (j : Nat) (T : List UInt8), vj = .int .i64 j ∧ j ≤ g.length ∧ vs = .string (S T) ∧ Below w.heap.size w wq ∧ SRow w.heap.size wq u8 names ∧ T.length ≤ 50 * k + 1 + j ∧ Hid (∃ J, T = txt ++ 32 :: J ∧ ∀ c ∈ J, c.toNat < 65 ∨ 90 < c.toNat)) (fun _ vj _ => g.length - (intOf vj).toNat)
          case atStart => exact ⟨0, t1, rfl, by omega, rfl, hb, hrow, by omega, Lib.hid ⟨[], HT1.out, fun c hc => by simp at hc⟩⟩
          case round =>
            clear hc2 hrow hb
            obtain ⟨j, T, rfl, hj, rfl, hb, hrow, hTl, hJ⟩ := hrel
            have hc2 := HG0.out _ hb
            by_cases hjl : j < g.length
            · have hi := idx_S g j hjl
              generalize g[j] = c at hi
              have hc256 := c.toNat_lt
              have hconv := run_one wr c
              have a2 : ∀ w, (Op.stringOp .add (S T) (S [c])).run Tryd.prog w = .ok (.string (S (T ++ [c]))) w := fun w => run_add_S w _ [c] (by simp; omega)
              obtain ⟨T', hT'⟩ : ∃ T', T' = T ++ [c] := ⟨_, rfl⟩
              have hTl' : T'.length = T.length + 1 := by rw [hT']; simp
              rw [← hT'] at a2
              have HT' := Lib.hid hT'
              clear hT'
              go_upto_region 16 with fail
              go_cut [89] (fun t wx => t = .bool (junk c) ∧ wr = wx)
              case first =>
                go_wp2
                all_goals
                  go_meet
                  refine ⟨?_, rfl⟩
                  congr 1
                  unfold junk
                  first
                    | (symm; rw [decide_eq_true_iff]; omega)
                    | (symm; rw [decide_eq_false_iff_not]; omega)
                    | (rw [Bool.eq_iff_iff]; simp; omega)
              case rest =>
                obtain ⟨rfl, rfl⟩ := hcut
                cases hjk : junk c with
                | true =>
                  have hnew : Hid (∃ J, T' = txt ++ 32 :: J ∧ ∀ c ∈ J, c.toNat < 65 ∨ 90 < c.toNat) := Lib.hid (by
                    obtain ⟨J, e, hJ'⟩ := hJ.out
                    refine ⟨J ++ [c], by rw [HT'.out, e]; simp, fun x hx => ?_⟩
                    rcases List.mem_append.1 hx with h | h
                    · exact hJ' x h
                    · have : x = c := by simpa using h
                      subst this
                      unfold junk at hjk
                      exact (of_decide_eq_true hjk).2.2.2)
                  clear hjk
                  go_wp2
                  go_roundw
                  case rel => exact ⟨j + 1, T', by go_num, by omega, rfl, hb.alloc hb.size _, own_below hrow ((Below.refl _ _).alloc (Nat.le_refl _) _), by omega, hnew⟩
                  case measure => simp [intOf]; omega
                | false =>
                  clear hjk
                  go_wp2
                  go_roundw
                  case rel => exact ⟨j + 1, T, by go_num, by omega, rfl, hb, hrow, by omega, hJ⟩
                  case measure => simp [intOf]; omega
            · obtain ⟨b0, o0, hA0, hlt0, hc0⟩ := h0.at_ hb k (by omega)
              obtain ⟨b1, o1, hA1, hlt1, hc1⟩ := h1.at_ hb k hlt
              subst hA0 hA1
              obtain ⟨p0, hp0, hp256⟩ := u8_nat (k0 _ (List.getElem_mem (show k < ks.length by omega)))
              obtain ⟨n, hn, hn64⟩ := u64_nat (k1 _ (List.getElem_mem hlt))
              rw [hp0] at hc0
              rw [hn] at hc1
              obtain ⟨p, hp⟩ : ∃ p, p = p0 % 6 := ⟨_, rfl⟩
              have hp6 : p < 6 := by omega
              have mp : (p0 : Int) % 6 = (p : Int) := by omega
              have tp : (p0 : Int).tmod 6 = (p : Int) := by rw [Int.tmod_eq_emod_of_nonneg (by omega)]; exact mp
              have hN := fun w' h => name_mod p n hp6 hn64 w' h
              have hnl2 := name_length (k := p + 1) (by omega) (by omega) n
              have hfn : Hid (∀ r, Tk.find (Tk.name (p + 1) n ++ r) = Tk.name (p + 1) n :: Tk.find r) := Lib.hid fun r => Tk.find_name (by omega) (by omega) hn64 r
              obtain ⟨nm, hnm⟩ : ∃ nm, nm = Tk.name (p + 1) n := ⟨_, rfl⟩
              rw [← hnm] at hN hnl2 hfn
              clear hp hp0 hn hnm
              have a3 : ∀ w, (Op.stringOp .add (S T) (S nm)).run Tryd.prog w = .ok (.string (S (T ++ nm))) w := fun w => run_add_S w _ _ (by omega)
              obtain ⟨T', hT'⟩ : ∃ T', T' = T ++ nm := ⟨_, rfl⟩
              have hTl' : T'.length ≤ 50 * (k + 1) := by rw [hT', List.length_append]; omega
              rw [← hT'] at a3
              have hnew : Hid (∀ r, Tk.find (T' ++ r) = names ++ [nm] ++ Tk.find r) := Lib.hid fun r => by
                obtain ⟨J, e, hJ'⟩ := hJ.out
                rw [hT', e, show txt ++ 32 :: J ++ nm ++ r = txt ++ ((32 :: J) ++ (nm ++ r)) by simp, hf.out, Tk.find_small (32 :: J) (nm ++ r) (fun c hc => by
                  rcases List.mem_cons.1 hc with h | h
                  · subst h; exact .inl (by decide)
                  · exact hJ' c h), hfn.out]
                simp
              clear hT'
              have hw0 : IntKind.i64.wrap (p : Int) = (p : Int) := by rw [IntKind.wrap_i64]; omega
              have i0' : (0 : Int) ≤ (k : Int) := by omega
              have i1' : (k : Int) < (ks.length : Int) := by omega
              have i2' : (k : Int) < (ds.length : Int) := by omega
              have hw1 : IntKind.i64.wrap (1 + (p : Int)) = 1 + (p : Int) := by rw [IntKind.wrap_i64]; omega
              have hbd : Below w.heap.size w wr.drew := hb.trans ⟨rfl, rfl, rfl, Nat.le_refl _, fun _ _ => rfl⟩
              have hrd : SRow w.heap.size wr.drew u8 names := own_below hrow ⟨rfl, rfl, rfl, Nat.le_refl _, fun _ _ => rfl⟩
              have HC0 : Hid (∀ w', Below wr.heap.size wr w' → w'.cell? ⟨b0, o0 + k, none⟩ = some (.int .u8 (p0 : Int)) ∧ w'.cell? ⟨b1, o1 + k, none⟩ = some (.int .u64 (n : Int))) := Lib.hid fun w' h => ⟨(h.cell (p := ⟨b0, o0 + k, none⟩) (Nat.lt_of_lt_of_le hlt0 hb.size)).trans hc0, (h.cell (p := ⟨b1, o1 + k, none⟩) (Nat.lt_of_lt_of_le hlt1 hb.size)).trans hc1⟩
              have hEd := hE.next hbd
              have hNd := hN wr.drew hEd
              have hdr : Below wr.heap.size wr wr.drew := ⟨rfl, rfl, rfl, Nat.le_refl _, fun _ _ => rfl⟩
              have HB := Lib.hid hb
              clear hN hc0 hc1
              go_upto_region 18 with fail
              go_region_held3 (fun wx => wx.cell? ⟨b0, o0 + k, none⟩ = some (.int .u8 (p0 : Int)) ∧ wx.cell? ⟨b1, o1 + k, none⟩ = some (.int .u64 (n : Int)))
                (first
                  | exact HC0.out _ hbq
                  | exact HC0.out _ hdr)
                ((go_at_call 9; refine hNd.mono ?_; rintro e w5 ⟨rfl, hq⟩; have hbq := hdr.trans (hq.mono (Nat.le_refl _))))
              have hb5 : Below w.heap.size w w5 := hbd.trans (hq.mono hbd.size)
              have hown5 : w5.ownsRow w.heap.size 9 1 u8 names.length (strsV names) := own_below hrd hq
              have hbs := hb5.size
              have h63 : names.length + 1 ≤ maxLen := by unfold maxLen; omega
              have h40 : names.length ≤ 10 := by omega
              have HNL := Lib.hid hnl
              clear hnl
              go_wp2_with (at_builtin; refine wpList_append_lies _ rfl (.tmp 110) (.tmp 112) _ rfl w.heap.size 9 i0 _ 1 16 Tryd.underlying32 hi0 hz0 hz1 hz2 rfl (by omega) _ names.length (strsV names) rfl (hown5.alloc _) ⟨w5.heap.size, 0, none⟩ 1 1 [.string (S nm)] rfl rfl (World.news_of_block (cs := #[.string (S nm)]) (t := 9) (fr := (0, 0)) (heap_alloc_new w5 _)) (by simp [Value.oneCell']) (by omega) (by omega) (by omega) (by simp; omega) (w5.heap.size + 1) (by simp) ?_; intro gg cap w6 hown6 hgrow hat hlt6)
              go_roundw
              case rel => exact ⟨k + 1, names ++ [nm], T', by go_num, by omega, rfl, srow_snoc hown6, (hb5.alloc hbs _).grown hgrow (by simp; omega) (fun k hk => (hown5.lt k hk).1), by simp [HNL.out], hTl', hnew⟩
              case measure => simp [intOf]; omega
        · have hgt : (20 : Int) < ((S g).size : Int) := by rw [hgs]; omega
          go_wp2
          go_ret
          exact ⟨rfl, hb⟩
      · have hkk : k = ds.length := by omega
        have hEz := hE.next hb
        have hF := find_any txt (by omega) wr hEz
        have hfin : Tk.find txt = names := by
          have := hf.out []
          rw [List.append_nil] at this
          rw [this]
          simp [Tk.find]
        rw [hfin] at hF
        have hnb : names.length ≤ 1099511627776 := by omega
        have HK := Lib.hid hkk
        have HN := Lib.hid hnl
        clear hkk hnl hfin
        go_wp2_with (first
          | (go_at_call 17; refine hF.mono ?_; rintro e w5 ⟨v, rfl, hr, hq⟩; have hrow5 := own_below hrow hq; have hz := hb.trans (hq.mono hb.size))
          | (go_at_call 16; refine (texts_two hr hrow5 hnb).mono ?_; rintro e w7 ⟨rfl, hq⟩; have hz := hz.trans (hq.mono hz.size)))
        go_ret
        exact ⟨ret_bool (by simp), hz⟩
  · have hway : (10 < ds.length) ∨ (ds.length ≤ 10 ∧ ks.length < ds.length) ∨ (ds.length ≤ 10 ∧ ds.length ≤ ks.length ∧ bs.length < ds.length) := by omega
    clear hok
    rcases hway with q | ⟨q, q'⟩ | ⟨q, q', q''⟩
    all_goals
      go_enter Tryd.func6, Tryd.ntmps6
      go_wp2_with (go_at_call 8; refine hA.mono ?_; rintro e w1 ⟨rfl, hz⟩)
      go_ret
      exact ⟨rfl, hz⟩
end Go.Proofs.YtihfpockmginfaaDoor
