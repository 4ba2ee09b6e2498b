/- What the document's own Add of URLs answers, for any URL, name and value of texts of at most 2^28 bytes and a port from 0 on. -/
import Derived.Test.YtndimjkdmhhohaaDoorUrlG
namespace Go.Proofs.YtndimjkdmhhohaaDoor
set_option maxRecDepth 8000
open Go.RowKit

def addQ (q n v : List UInt8) : List UInt8 := (if q = [] then [] else q ++ [38]) ++ (Pct.enc n ++ [61] ++ Pct.enc v)
def addU (u : Url.U) (n v : List UInt8) : Url.U := { u with query := addQ u.query n v, ask := true }

theorem refEncode_S (l : List UInt8) (w : World) (hs : l.length ≤ 1073741824) :
    Calls Tryd.prog 39 #[.string (S l)] w fun e w' => e = .returned (.string (S (Pct.enc l))) ∧ ∃ n, w' = w.drewN n :=
  refEncode_any (S l) w hs

set_option maxHeartbeats 800000 in
theorem refAdd_any (u : Url.U) (n v : List UInt8) (w : World) (hu : Few u) (hn : n.length ≤ 268435456) (hv : v.length ≤ 268435456) :
    Calls Tryd.prog 19 #[uV u, .string (S n), .string (S v)] w (Told w (.returned (uV (addU u n v)))) := by
  obtain ⟨h1, h2, h3, h4, h5⟩ := id hu
  obtain ⟨sc, hst, po, pa, qu, ak⟩ := u
  simp only at h1 h2 h3 h4 h5
  have len1 := (Pct.enc_len n).2
  have len2 := (Pct.enc_len v).2
  have hE := fun w' => refEncode_S n w' (by omega)
  have hF := fun w' => refEncode_S v w' (by omega)
  have HQ := Lib.hid (show addQ qu n v = (if qu = [] then [] else qu ++ [38]) ++ (Pct.enc n ++ [61] ++ Pct.enc v) from rfl)
  obtain ⟨x, hx⟩ : ∃ x, x = Pct.enc n := ⟨_, rfl⟩
  obtain ⟨y, hy⟩ : ∃ y, y = Pct.enc v := ⟨_, rfl⟩
  rw [← hx] at hE HQ len1
  rw [← hy] at hF HQ len2
  clear hx hy
  have a1 : ∀ w' : World, (Op.stringOp .add (S x) ⟨#[61]⟩).run Tryd.prog w' = .ok (.string (S (x ++ [61]))) w' := fun w' => run_add_S' w' x [61] (by simp; omega)
  obtain ⟨x1, hx1⟩ : ∃ x1, x1 = x ++ [61] := ⟨_, rfl⟩
  have hl1 : x1.length = x.length + 1 := by rw [hx1]; simp
  rw [← hx1] at a1 HQ
  clear hx1
  have a2 := fun w' : World => run_add_S' w' x1 y (by omega)
  obtain ⟨x2, hx2⟩ : ∃ x2, x2 = x1 ++ y := ⟨_, rfl⟩
  have hl2 : x2.length = x1.length + y.length := by rw [hx2]; simp
  rw [← hx2] at a2 HQ
  clear hx2
  have hql : (S qu).toList.isEmpty = qu.isEmpty := S_empty qu
  cases qu with
  | nil =>
    have hql' : (S []).toList.isEmpty = true := hql
    have HR := Lib.hid (show x2 = addQ [] n v by rw [HQ.out]; rfl)
    unfold uV uCells addU
    simp only
    rw [← HR.out]
    clear hql
    go_enter Tryd.func19, Tryd.ntmps19
    go_wp2_with fail
    refine (hE _).mono ?_
    rintro e w' ⟨rfl, n1, rfl⟩
    go_wp2_with fail
    refine (hF _).mono ?_
    rintro e w' ⟨rfl, n2, rfl⟩
    go_wp2
    exact bodyPost_ret (v := .agg #[.string (S sc), .string (S hst), .int .i64 (po : Int), .string (S pa), .string (S x2), .bool true]) (by simp [results, Tryd.results19, go_sem]) rfl ⟨rfl, by
      refine Below.setCell ?_ (by simp) _
      refine Below.setCell ?_ (by simp) _
      refine Below.setCell ?_ (by simp) _
      refine Below.setCell ?_ (by simp) _
      refine Below.setCell ?_ (by simp) _
      refine Below.setCell ?_ (by simp) _
      refine Below.setCell ?_ (by simp) _
      refine Below.setCell ?_ (by simp) _
      exact below_drewN (((Below.refl _ _).alloc (Nat.le_refl _) _).alloc (by simp) _) _⟩
  | cons c r =>
    have hql' : (S (c :: r)).toList.isEmpty = false := hql
    obtain ⟨q, hq⟩ : ∃ q, q = c :: r := ⟨_, rfl⟩
    rw [← hq] at hql' HQ h5 ⊢
    have hq0 : q ≠ [] := by rw [hq]; simp
    clear hq hql hu
    have b1 : ∀ w' : World, (Op.stringOp .add (S q) ⟨#[38]⟩).run Tryd.prog w' = .ok (.string (S (q ++ [38]))) w' := fun w' => run_add_S' w' q [38] (by simp; omega)
    rw [if_neg hq0] at HQ
    obtain ⟨q1, hq1⟩ : ∃ q1, q1 = q ++ [38] := ⟨_, rfl⟩
    have hl3 : q1.length = q.length + 1 := by rw [hq1]; simp
    rw [← hq1] at b1 HQ
    clear hq1
    have b2 := fun w' : World => run_add_S' w' q1 x2 (by omega)
    obtain ⟨x3, hx3⟩ : ∃ x3, x3 = q1 ++ x2 := ⟨_, rfl⟩
    rw [← hx3] at b2 HQ
    clear hx3 hq0
    unfold uV uCells addU
    simp only
    rw [HQ.out]
    go_enter Tryd.func19, Tryd.ntmps19
    go_wp2_with fail
    refine (hE _).mono ?_
    rintro e w' ⟨rfl, n1, rfl⟩
    go_wp2_with fail
    refine (hF _).mono ?_
    rintro e w' ⟨rfl, n2, rfl⟩
    go_wp2
    exact bodyPost_ret (v := .agg #[.string (S sc), .string (S hst), .int .i64 (po : Int), .string (S pa), .string (S x3), .bool true]) (by simp [results, Tryd.results19, go_sem]) rfl ⟨rfl, by
      refine Below.setCell ?_ (by simp) _
      refine Below.setCell ?_ (by simp) _
      refine Below.setCell ?_ (by simp) _
      refine Below.setCell ?_ (by simp) _
      refine Below.setCell ?_ (by simp) _
      refine Below.setCell ?_ (by simp) _
      refine Below.setCell ?_ (by simp) _
      refine Below.setCell ?_ (by simp) _
      exact below_drewN (((Below.refl _ _).alloc (Nat.le_refl _) _).alloc (by simp) _) _⟩
end Go.Proofs.YtndimjkdmhhohaaDoor
