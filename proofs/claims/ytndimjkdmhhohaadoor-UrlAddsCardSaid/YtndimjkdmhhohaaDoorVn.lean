/- What package url's Add answers, for any URL, and any name and value of at most 1000 bytes, where the table of digits reads as its text lays it. -/
import Derived.Test.YtndimjkdmhhohaaDoorVl
import Derived.Test.YtndimjkdmhhohaaDoorWriteWalk
import Derived.Deep.RegionWith
namespace Go.Proofs.YtndimjkdmhhohaaDoor
set_option maxRecDepth 8000
open Go.RowKit

theorem write_at (W : World) (g : Nat) (n v : List UInt8) (hd : Digs W) (hg : W.heap[g]? = some (.cells #[.string (S n), .string (S v)] 41 (0, 0))) (hn : n.length ≤ 1000) (hv : v.length ≤ 1000) :
    Calls Tryd.prog 38 #[.slice (some ⟨g, 0, none⟩) 1 1] W fun e w' => e = .returned (.string (S (Pct.enc n ++ [61] ++ Pct.enc v))) ∧ Below W.heap.size W w' := by
  have hpc : PCells W W.heap.size (some ⟨g, 0, none⟩) [(n, v)] := by
    intro _
    refine ⟨g, 0, rfl, blk_lt hg, fun k hk => ?_⟩
    have hc := fun i => cell_of_row W g i _ _ _ hg
    match k, hk with
    | 0, _ => exact ⟨hc 0, hc 1⟩
  have := write_any (some ⟨g, 0, none⟩) 1 [(n, v)] W hd hpc (by simp [short1, hn, hv]) (by simp)
  refine this.mono fun e w' ⟨he, hb⟩ => ⟨?_, hb⟩
  rw [he]
  simp [Pct.write, Pct.wr1]

/-- The world at the call of Write: the URL, the answer's block, the pair. -/
abbrev addW (w : World) (u : Url.U) (n v : List UInt8) : World :=
  ((w.alloc (.cells #[.string (S u.scheme), .string (S u.host), .int .i64 (u.port : Int), .string (S u.path), .string (S u.query), .bool u.ask] 24)).alloc (.cells #[.string ⟨#[]⟩, .string ⟨#[]⟩, .int .i64 0, .string ⟨#[]⟩, .string ⟨#[]⟩, .bool false] 24)).alloc (.cells #[.string (S n), .string (S v)] 41)
theorem BlkU.six0 {w : World} {g : Nat} {u : Url.U} (h : BlkU w g u) : w.cell? ⟨g, 0, none⟩ = some (.string (S u.scheme)) ∧ w.cell? ⟨g, 1, none⟩ = some (.string (S u.host)) ∧ w.cell? ⟨g, 2, none⟩ = some (.int .i64 (u.port : Int)) ∧ w.cell? ⟨g, 3, none⟩ = some (.string (S u.path)) ∧ w.cell? ⟨g, 4, none⟩ = some (.string (S u.query)) ∧ w.cell? ⟨g, 5, none⟩ = some (.bool u.ask) := ⟨h.c0, h.c1, h.c2, h.c3, h.c4, h.c5⟩
structure AddAt (w : World) (u : Url.U) (w' : World) : Prop where
  blk : BlkU w' w.heap.size u
  res : BlkU w' (w.heap.size + 1) zeroU
  below : Below w.heap.size w w'
theorem addAt_of {w : World} {u : Url.U} {n v : List UInt8} {w' : World} (hb : Below (addW w u n v).heap.size (addW w u n v) w') : AddAt w u w' := by
  have h1 : BlkU (addW w u n v) w.heap.size u := by
    unfold BlkU
    rw [Below.heap_alloc _ _ _ (by simp; omega), Below.heap_alloc _ _ _ (by simp)]
    exact heap_alloc_new w _
  have h2 : BlkU (addW w u n v) (w.heap.size + 1) zeroU := by
    unfold BlkU
    rw [Below.heap_alloc _ _ _ (by simp)]
    have := heap_alloc_new (w.alloc (.cells #[.string (S u.scheme), .string (S u.host), .int .i64 (u.port : Int), .string (S u.path), .string (S u.query), .bool u.ask] 24)) (.cells #[.string ⟨#[]⟩, .string ⟨#[]⟩, .int .i64 0, .string ⟨#[]⟩, .string ⟨#[]⟩, .bool false] 24)
    have e : (w.alloc (.cells #[.string (S u.scheme), .string (S u.host), .int .i64 (u.port : Int), .string (S u.path), .string (S u.query), .bool u.ask] 24)).heap.size = w.heap.size + 1 := by simp
    rw [e] at this
    exact this
  refine ⟨h1.below hb (below_lt h1), h2.below hb (below_lt h2), ?_⟩
  have h3 := (((Below.refl w.heap.size w).alloc (Nat.le_refl _) (.cells #[.string (S u.scheme), .string (S u.host), .int .i64 (u.port : Int), .string (S u.path), .string (S u.query), .bool u.ask] 24)).alloc (by simp) (.cells #[.string ⟨#[]⟩, .string ⟨#[]⟩, .int .i64 0, .string ⟨#[]⟩, .string ⟨#[]⟩, .bool false] 24)).alloc (by simp; omega) (.cells #[.string (S n), .string (S v)] 41)
  exact h3.trans (hb.mono (by simp; omega))
theorem write_add (w : World) (u : Url.U) (n v : List UInt8) (hd : Digs w) (hn : n.length ≤ 1000) (hv : v.length ≤ 1000) (k : Nat) :
    Calls Tryd.prog 38 #[.slice (some ⟨w.heap.size + 1 + 1, 0, none⟩) 1 1] ((addW w u n v).drewN k) fun e w' => e = .returned (.string (S (Pct.enc n ++ [61] ++ Pct.enc v))) ∧ AddAt w u w' := by
  have hb0 : Below w.heap.size w ((addW w u n v).drewN k) := below_drewN ((((Below.refl w.heap.size w).alloc (Nat.le_refl _) _).alloc (by simp) _).alloc (by simp; omega) _) k
  have hg : ((addW w u n v).drewN k).heap[w.heap.size + 1 + 1]? = some (.cells #[.string (S n), .string (S v)] 41 (0, 0)) := by
    rw [World.heap_drewN]
    have := heap_alloc_new ((w.alloc (.cells #[.string (S u.scheme), .string (S u.host), .int .i64 (u.port : Int), .string (S u.path), .string (S u.query), .bool u.ask] 24)).alloc (.cells #[.string ⟨#[]⟩, .string ⟨#[]⟩, .int .i64 0, .string ⟨#[]⟩, .string ⟨#[]⟩, .bool false] 24)) (.cells #[.string (S n), .string (S v)] 41)
    simpa using this
  refine (write_at _ _ n v (hd.below hb0 hd.lt) hg hn hv).mono fun e w' ⟨he, hb⟩ => ⟨he, addAt_of (n := n) (v := v) ?_⟩
  have hd0 := below_drewN (Below.refl (addW w u n v).heap.size (addW w u n v)) k
  exact hd0.trans (hb.mono hd0.size)

set_option maxHeartbeats 1600000 in
theorem add_url (u : Url.U) (n v : List UInt8) (w : World) (hd : Digs w) (hu : Few u) (hn : n.length ≤ 1000) (hv : v.length ≤ 1000) :
    Calls Tryd.prog 18 #[uV u, .string (S n), .string (S v)] w (Told w (.returned (uV (addU u n v)))) := by
  obtain ⟨h1, h2, h3, h4, h5⟩ := id hu
  have HW := Lib.hid (fun k => write_add w u n v hd hn hv k)
  obtain ⟨sc, hst, po, pa, qu, ak⟩ := u
  simp only at h1 h2 h3 h4 h5
  have len1 := (Pct.enc_len n).2
  have len2 := (Pct.enc_len v).2
  have HQ := Lib.hid (show addQ qu n v = (if qu = [] then [] else qu ++ [38]) ++ (Pct.enc n ++ [61] ++ Pct.enc v) from rfl)
  obtain ⟨x, hx⟩ : ∃ x : List UInt8, Pct.enc n ++ [61] ++ Pct.enc v = x := ⟨_, rfl⟩
  have hxl : x.length ≤ 7000 := by rw [← hx]; simp; omega
  rw [hx] at HW HQ
  clear len1 len2
  have hql : (S qu).toList.isEmpty = qu.isEmpty := S_empty qu
  cases qu with
  | nil =>
    have hql' : (S []).toList.isEmpty = true := hql
    have HR := Lib.hid (show addQ [] n v = x by rw [HQ.out]; rfl)
    unfold uV uCells addU
    simp only
    rw [HR.out]
    clear hql HQ hx
    have a1 : ∀ w' : World, (Op.stringOp .add (S []) (S x)).run Tryd.prog w' = .ok (.string (S ([] ++ x))) w' := fun w' => run_add_S' w' [] x (by simp; omega)
    rw [List.nil_append] at a1
    go_enter Tryd.func18, Tryd.ntmps18
    go_wp2_with fail
    go_region_with (go_at_call 38; refine (HW.out _).mono ?_; rintro e w' ⟨rfl, hA⟩; obtain ⟨c0, c1, c2, c3, c4, c5⟩ := hA.blk.six0; obtain ⟨d0, d1, d2, d3, d4, d5, g0, g1, g2, g3, g4, g5⟩ := hA.res.zero; have f4 := hA.blk.frozen 4; have f5 := hA.blk.frozen 5)
    all_goals
      go_wp2
      exact bodyPost_ret (v := .agg #[.string (S sc), .string (S hst), .int .i64 (po : Int), .string (S pa), .string (S x), .bool true]) (by simp [results, Tryd.results18, go_sem, d0, d1, d2, d3, d4, d5]) rfl ⟨rfl, by
        refine Below.setCell ?_ (by simp) _
        refine Below.setCell ?_ (by simp) _
        refine Below.setCell ?_ (by simp) _
        refine Below.setCell ?_ (by simp) _
        refine Below.setCell ?_ (by simp) _
        refine Below.setCell ?_ (by simp) _
        refine Below.setCell ?_ (by simp) _
        refine Below.setCell ?_ (by simp) _
        exact hA.below⟩
  | cons c r =>
    have hql' : (S (c :: r)).toList.isEmpty = false := hql
    obtain ⟨q, hq⟩ : ∃ q : List UInt8, q = c :: r := ⟨_, rfl⟩
    rw [← hq] at hql' HQ h5 hu ⊢
    have hq0 : q ≠ [] := by rw [hq]; simp
    clear hq hql HW
    have b1 : ∀ w' : World, (Op.stringOp .add (S q) ⟨#[38]⟩).run Tryd.prog w' = .ok (.string (S (q ++ [38]))) w' := fun w' => run_add_S' w' q [38] (by simp; omega)
    rw [if_neg hq0] at HQ
    obtain ⟨q1, hq1⟩ : ∃ q1 : List UInt8, q1 = q ++ [38] := ⟨_, rfl⟩
    have hl3 : q1.length = q.length + 1 := by rw [hq1]; simp
    rw [← hq1] at b1 HQ
    clear hq1
    have HW := Lib.hid (fun k => write_add w ⟨sc, hst, po, pa, q1, ak⟩ n v hd hn hv k)
    rw [hx] at HW
    clear hx
    have b2 := fun w' : World => run_add_S' w' q1 x (by omega)
    obtain ⟨x3, hx3⟩ : ∃ x3 : List UInt8, x3 = q1 ++ x := ⟨_, rfl⟩
    rw [← hx3] at b2 HQ
    clear hx3 hq0
    unfold uV uCells addU
    simp only
    rw [HQ.out]
    go_enter Tryd.func18, Tryd.ntmps18
    go_wp2_with fail
    go_region_with (go_at_call 38; refine (HW.out _).mono ?_; rintro e w' ⟨rfl, hA⟩; obtain ⟨c0, c1, c2, c3, c4, c5⟩ := hA.blk.six0; obtain ⟨d0, d1, d2, d3, d4, d5, g0, g1, g2, g3, g4, g5⟩ := hA.res.zero; have f4 := hA.blk.frozen 4; have f5 := hA.blk.frozen 5)
    all_goals
      go_wp2
      exact bodyPost_ret (v := .agg #[.string (S sc), .string (S hst), .int .i64 (po : Int), .string (S pa), .string (S x3), .bool true]) (by simp [results, Tryd.results18, go_sem, d0, d1, d2, d3, d4, d5]) rfl ⟨rfl, by
        refine Below.setCell ?_ (by simp) _
        refine Below.setCell ?_ (by simp) _
        refine Below.setCell ?_ (by simp) _
        refine Below.setCell ?_ (by simp) _
        refine Below.setCell ?_ (by simp) _
        refine Below.setCell ?_ (by simp) _
        refine Below.setCell ?_ (by simp) _
        refine Below.setCell ?_ (by simp) _
        exact hA.below⟩
end Go.Proofs.YtndimjkdmhhohaaDoor
