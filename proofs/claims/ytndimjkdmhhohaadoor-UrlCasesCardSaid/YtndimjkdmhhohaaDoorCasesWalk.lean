/- What the statement UrlCases does at any letters, any text, any marks and any scheme: it answers true and turns nothing that was there, where the variables that it reaches read as their texts lay them. -/
import Derived.Test.YtndimjkdmhhohaaDoorCasesPure
namespace Go.Proofs.YtndimjkdmhhohaaDoor
set_option maxRecDepth 8000
open Go.RowKit

def BCells (w : World) (bd : Nat) (A : Option Addr) (l : List UInt8) : Prop :=
  0 < l.length → ∃ b off, A = some ⟨b, off, none⟩ ∧ b < bd ∧ ∀ k (h : k < l.length), w.cell? ⟨b, off + k, none⟩ = some (B l[k])
def LCells (w : World) (bd : Nat) (A : Option Addr) (l : List Bool) : Prop :=
  0 < l.length → ∃ b off, A = some ⟨b, off, none⟩ ∧ b < bd ∧ ∀ k (h : k < l.length), w.cell? ⟨b, off + k, none⟩ = some (.bool l[k])
theorem BCells.below {w w' : World} {A : Option Addr} {l : List UInt8} (h : BCells w w.heap.size A l) (hb : Below w.heap.size w w') : BCells w' w.heap.size A l := fun hn => by
  obtain ⟨b, off, h1, h2, h3⟩ := h hn
  exact ⟨b, off, h1, h2, fun k hk => (hb.cell (p := ⟨b, off + k, none⟩) h2).trans (h3 k hk)⟩
theorem LCells.below {w w' : World} {A : Option Addr} {l : List Bool} (h : LCells w w.heap.size A l) (hb : Below w.heap.size w w') : LCells w' w.heap.size A l := fun hn => by
  obtain ⟨b, off, h1, h2, h3⟩ := h hn
  exact ⟨b, off, h1, h2, fun k hk => (hb.cell (p := ⟨b, off + k, none⟩) h2).trans (h3 k hk)⟩

def letter (c : UInt8) : UInt8 := UInt8.ofNat (97 + c.toNat % 26)
theorem letter_low (c : UInt8) : lowB (letter c) = true := by
  have := Url.byte_all (P := fun c => lowB (letter c)) (by decide +kernel) c
  exact this
theorem letter_nat (c : UInt8) : ((letter c).toNat : Int) = 97 + (c.toNat : Int) % 26 := by
  unfold letter
  rw [UInt8.toNat_ofNat']
  omega
theorem great_nat {c : UInt8} (h : lowB c = true) : ((UInt8.ofNat (c.toNat - 32)).toNat : Int) = (c.toNat : Int) - 32 := by
  have := of_decide_eq_true (p := 97 ≤ c.toNat ∧ c.toNat ≤ 122) h
  rw [UInt8.toNat_ofNat']
  omega
theorem small_take' (a : List UInt8) (k : Nat) : Url.small (a.take k) = (Url.small a).take k := by simp [Url.small, List.map_take]
theorem BlkU.sixO {w : World} {g : Nat} {u : Url.U} (h : BlkU w g u) : (∀ o, (w.alloc o).cell? ⟨g, 0, none⟩ = some (.string (S u.scheme))) ∧ (∀ o, (w.alloc o).cell? ⟨g, 1, none⟩ = some (.string (S u.host))) ∧ (∀ o, (w.alloc o).cell? ⟨g, 2, none⟩ = some (.int .i64 (u.port : Int))) ∧ (∀ o, (w.alloc o).cell? ⟨g, 3, none⟩ = some (.string (S u.path))) ∧ (∀ o, (w.alloc o).cell? ⟨g, 4, none⟩ = some (.string (S u.query))) ∧ (∀ o, (w.alloc o).cell? ⟨g, 5, none⟩ = some (.bool u.ask)) :=
  ⟨fun o => (h.more o).c0, fun o => (h.more o).c1, fun o => (h.more o).c2, fun o => (h.more o).c3, fun o => (h.more o).c4, fun o => (h.more o).c5⟩
theorem BlkU.zeroO {w : World} {g : Nat} (h : BlkU w g zeroU) : (∀ o, (w.alloc o).cell? ⟨g, 0, none⟩ = some (.string ⟨#[]⟩)) ∧ (∀ o, (w.alloc o).cell? ⟨g, 1, none⟩ = some (.string ⟨#[]⟩)) ∧ (∀ o, (w.alloc o).cell? ⟨g, 2, none⟩ = some (.int .i64 0)) ∧ (∀ o, (w.alloc o).cell? ⟨g, 3, none⟩ = some (.string ⟨#[]⟩)) ∧ (∀ o, (w.alloc o).cell? ⟨g, 4, none⟩ = some (.string ⟨#[]⟩)) ∧ (∀ o, (w.alloc o).cell? ⟨g, 5, none⟩ = some (.bool false)) := h.sixO
theorem S_at (a : List UInt8) (k : Nat) (h : k < (S a).size) : (S a)[k] = a[k]'h := rfl

set_option maxHeartbeats 4000000 in
theorem urlCases_http (A0 A2 : Option Addr) (c0 c2 : Nat) (hl : List UInt8) (p : List UInt8) (gr : List Bool) (w : World) (he : Env w) (hh : BCells w w.heap.size A0 hl) (hg : LCells w w.heap.size A2 gr) (hg63 : gr.length ≤ 9223372036854775807) (h1 : 1 ≤ hl.length) (h30 : hl.length ≤ 30) (hp : p.length ≤ 100) :
    Calls Tryd.prog 8 #[.slice A0 hl.length c0, .string (S p), .slice A2 gr.length c2, .bool false] w (AwakePost w) := by
  have hS := S_list
  have hzp : (S p).size = p.length := rfl
  have ad : ∀ w' : World, (Op.stringOp .add ⟨#[104, 116, 116, 112]⟩ ⟨#[58, 47, 47]⟩).run Tryd.prog w' = .ok (.string (S (Url.http ++ Url.sep))) w' := fun w' => run_add_S' w' Url.http Url.sep (by decide)
  obtain ⟨pre, hpre⟩ : ∃ pre : List UInt8, Url.http ++ Url.sep = pre := ⟨_, rfl⟩
  have hprel : pre.length ≤ 8 := by rw [← hpre]; decide
  rw [hpre] at ad
  have HPRE := Lib.hid hpre
  clear hpre
  go_enter Tryd.func8, Tryd.ntmps8
  go_wp2_with fail
  refine (awake_url w he).mono ?_
  rintro e w1 ⟨rfl, hb1⟩
  go_wp2
  go_loopw [10, 12] (fun v i wr => ∃ (k : Nat) (hs : List UInt8), k ≤ hl.length ∧ i = .int .i64 k ∧ v = .string (S (pre ++ hs)) ∧ hs.length = k ∧ hs.all lowB = true ∧ Below w.heap.size w wr) (fun _ i _ => hl.length - (intOf i).toNat)
  case atStart => exact ⟨0, [], Nat.zero_le _, rfl, by rw [List.append_nil], rfl, rfl, hb1⟩
  case round =>
    obtain ⟨k, hs, hk, rfl, rfl, hsl, hsa, hb⟩ := hrel
    have HSA := Lib.hid hsa
    clear hsa
    have hbs := hb.size
    by_cases hlt : k < hl.length
    · obtain ⟨b, off, rfl, hbb, hc⟩ := hh.below hb (by omega)
      have hck := hc k hlt
      clear hc
      have i0 : (0 : Int) ≤ (k : Int) := by omega
      have i1 : (k : Int) < (hl.length : Int) := by omega
      obtain ⟨x, hx⟩ : ∃ x, x = hl[k] := ⟨_, rfl⟩
      rw [← hx] at hck
      clear hx
      have hx8 := Pct.u8_lt x
      have a2 := run_one wr (letter x)
      unfold B at a2
      rw [letter_nat] at a2
      obtain ⟨y, hy⟩ : ∃ y : List UInt8, y = pre ++ hs := ⟨_, rfl⟩
      have hyl : y.length ≤ 38 := by rw [hy]; simp; omega
      have HY := Lib.hid hy
      rw [← hy]
      clear hy
      have a1 := fun w' : World => run_add_S' w' y [letter x] (by simp; omega)
      go_wp2
      go_roundw
      case rel =>
        refine ⟨k + 1, hs ++ [letter x], by omega, by go_num, by rw [HY.out, List.append_assoc], by simp; omega, ?_, hb.alloc hbs _⟩
        rw [List.all_append, HSA.out]
        simp [letter_low]
      case measure => simp [intOf]; omega
    · have hkl : hs.length = hl.length := by omega
      have hs0 : hs ≠ [] := by
        intro e
        rw [e] at hkl
        simp at hkl
        omega
      have ha1 : pre ++ hs = Url.http ++ (Url.sep ++ hs) := by rw [← HPRE.out, List.append_assoc]
      obtain ⟨a, ha⟩ : ∃ a : List UInt8, a = pre ++ hs := ⟨_, rfl⟩
      have hal : a.length ≤ 38 := by rw [ha]; simp; omega
      rw [← ha] at ha1
      rw [← ha]
      clear ha
      have hsm : Url.small a = a := by
        rw [ha1, small_append, small_append, low_small HSA.out]
        rfl
      have HSM := Lib.hid hsm
      have HA := Lib.hid ha1
      have hs30 : hs.length ≤ 30 := by omega
      have HS0 := Lib.hid hs0
      clear hsm ha1 hkl hs0 hsl
      have hsz : (S a).size = a.length := rfl
      have hbe := hb
      go_wp2
      go_loopw [13, 14] (fun v i wr => ∃ (k : Nat) (acc : List UInt8), k ≤ a.length ∧ i = .int .i64 k ∧ v = .string (S acc) ∧ acc.length = k ∧ Url.small acc = a.take k ∧ Below w.heap.size w wr) (fun _ i _ => a.length - (intOf i).toNat)
      case atStart => exact ⟨0, [], Nat.zero_le _, rfl, rfl, rfl, rfl, hb⟩
      case round =>
        clear hb hbs hbe
        obtain ⟨k, acc, hk, rfl, rfl, hal2, hsm, hb⟩ := hrel
        have hbs := hb.size
        by_cases hlt : k < a.length
        · obtain ⟨x, hx⟩ : ∃ x : UInt8, a[k]'hlt = x := ⟨_, rfl⟩
          have HTK := Lib.hid (show a.take (k + 1) = a.take k ++ [x] by rw [← hx]; exact List.take_succ_eq_append_getElem hlt)
          have hlow : Url.lower x = x := by
            have h1 := congrArg (fun l : List UInt8 => l[k]?) HSM.out
            simp [Url.small, hlt] at h1
            rw [hx] at h1
            exact h1
          have HACC := Lib.hid hsm
          clear hsm
          have i0 : (0 : Int) ≤ (k : Int) := by omega
          have i1 : (k : Int) < (a.length : Int) := by omega
          have hik : k < (S a).size := hlt
          have hax : (S a)[k] = x := hx
          clear hx
          have hx8 := Pct.u8_lt x
          have HL := Lib.hid hlow
          clear hlow
          by_cases hgk : ∃ h : k < gr.length, gr[k] = true
          · obtain ⟨hgl, hgt⟩ := hgk
            obtain ⟨b, off, rfl, hbb, hc⟩ := hg.below hb (by omega)
            have hck := hc k hgl
            rw [hgt] at hck
            clear hc hgt
            have j1 : (k : Int) < (gr.length : Int) := by omega
            by_cases hlb : lowB x = true
            · obtain ⟨l1, l2⟩ := of_decide_eq_true (p := 97 ≤ x.toNat ∧ x.toNat ≤ 122) hlb
              have HG := Lib.hid (low_great x hlb)
              have a2 := run_one wr (UInt8.ofNat (x.toNat - 32))
              unfold B at a2
              rw [great_nat hlb] at a2
              clear hlb
              obtain ⟨z, hz⟩ : ∃ z, UInt8.ofNat (x.toNat - 32) = z := ⟨_, rfl⟩
              rw [hz] at a2 HG
              clear hz
              have a1 := fun w' : World => run_add_S' w' acc [z] (by simp; omega)
              go_wp2
              go_roundw
              case rel => exact ⟨k + 1, acc ++ [z], by omega, by go_num, rfl, by simp; omega, by rw [small_append, HACC.out, HTK.out]; simp [Url.small, HG.out], hb.alloc hbs _⟩
              case measure => simp [intOf]; omega
            · have hnl : x.toNat < 97 ∨ 122 < x.toNat := by
                have := of_decide_eq_false (p := 97 ≤ x.toNat ∧ x.toNat ≤ 122) (by simpa [lowB] using hlb)
                omega
              have a2 := run_one wr x
              unfold B at a2
              have a1 := fun w' : World => run_add_S' w' acc [x] (by simp; omega)
              clear hlb
              by_cases hn1 : x.toNat < 97
              · clear hnl
                go_wp2
                go_roundw
                case rel => exact ⟨k + 1, acc ++ [x], by omega, by go_num, rfl, by simp; omega, by rw [small_append, HACC.out, HTK.out]; simp [Url.small, HL.out], hb.alloc hbs _⟩
                case measure => simp [intOf]; omega
              · have hn2 : 122 < x.toNat := by omega
                clear hnl
                go_wp2
                go_roundw
                case rel => exact ⟨k + 1, acc ++ [x], by omega, by go_num, rfl, by simp; omega, by rw [small_append, HACC.out, HTK.out]; simp [Url.small, HL.out], hb.alloc hbs _⟩
                case measure => simp [intOf]; omega
          · have a2 := run_one wr x
            unfold B at a2
            have a1 := fun w' : World => run_add_S' w' acc [x] (by simp; omega)
            by_cases hgl : k < gr.length
            · have hgf : gr[k] = false := by
                cases h : gr[k] with
                | false => rfl
                | true => exact absurd ⟨hgl, h⟩ hgk
              obtain ⟨b, off, rfl, hbb, hc⟩ := hg.below hb (by omega)
              have hck := hc k hgl
              rw [hgf] at hck
              clear hc hgf hgk
              have j1 : (k : Int) < (gr.length : Int) := by omega
              go_wp2
              go_roundw
              case rel => exact ⟨k + 1, acc ++ [x], by omega, by go_num, rfl, by simp; omega, by rw [small_append, HACC.out, HTK.out]; simp [Url.small, HL.out], hb.alloc hbs _⟩
              case measure => simp [intOf]; omega
            · clear hgk
              go_wp2
              go_roundw
              case rel => exact ⟨k + 1, acc ++ [x], by omega, by go_num, rfl, by simp; omega, by rw [small_append, HACC.out, HTK.out]; simp [Url.small, HL.out], hb.alloc hbs _⟩
              case measure => simp [intOf]; omega
        · rw [List.take_of_length_le (by omega)] at hsm
          have hcs := cases_one (sc := Url.http) (pt := [58, 56, 48]) (a := a) (b := acc) (p := p) (n := 80) (.inl rfl) (port_80 p) (by decide) ⟨_, rfl⟩ (by decide) HA.out hsm HSA.out HS0.out hs30 hp
          have HTO := Lib.hid (fun u h => tail_origin (sc := Url.http) (h := hs) (r := 47 :: p) (u := u) h)
          rw [← HA.out] at HTO
          generalize Url.tail3 Url.http hs 0 (47 :: p) = res at hcs HTO
          obtain ⟨q1, q2, q3⟩ := hcs
          have Q1 := Lib.hid q1
          have Q2 := Lib.hid q2
          have Q3 := Lib.hid q3
          clear hsm q1 q2 q3
          have hacl : acc.length ≤ 38 := by omega
          have s1 : ∀ w' : World, (Op.stringOp .add (S a) ⟨#[47]⟩).run Tryd.prog w' = .ok (.string (S (a ++ [47]))) w' := fun w' => run_add_S' w' a [47] (by simp; omega)
          have s2 : ∀ w' : World, (Op.stringOp .add (S acc) ⟨#[47]⟩).run Tryd.prog w' = .ok (.string (S (acc ++ [47]))) w' := fun w' => run_add_S' w' acc [47] (by simp; omega)
          have s3 : ∀ w' : World, (Op.stringOp .add (S acc) ⟨#[58, 56, 48]⟩).run Tryd.prog w' = .ok (.string (S (acc ++ [58, 56, 48]))) w' := fun w' => run_add_S' w' acc [58, 56, 48] (by simp; omega)
          obtain ⟨x1, hx1⟩ : ∃ x1 : List UInt8, x1 = a ++ [47] := ⟨_, rfl⟩
          obtain ⟨x2, hx2⟩ : ∃ x2 : List UInt8, x2 = acc ++ [47] := ⟨_, rfl⟩
          obtain ⟨x3, hx3⟩ : ∃ x3 : List UInt8, x3 = acc ++ [58, 56, 48] := ⟨_, rfl⟩
          have l1 : x1.length ≤ 40 := by rw [hx1]; simp; omega
          have l2 : x2.length ≤ 40 := by rw [hx2]; simp; omega
          have l3 : x3.length ≤ 45 := by rw [hx3]; simp; omega
          rw [← hx1] at s1
          rw [← hx2] at s2
          rw [← hx3] at s3
          have s4 := fun w' : World => run_add_S' w' x1 p (by omega)
          have s5 := fun w' : World => run_add_S' w' x2 p (by omega)
          have s6 : ∀ w' : World, (Op.stringOp .add (S x3) ⟨#[47]⟩).run Tryd.prog w' = .ok (.string (S (x3 ++ [47]))) w' := fun w' => run_add_S' w' x3 [47] (by simp; omega)
          obtain ⟨x4, hx4⟩ : ∃ x4 : List UInt8, x4 = x3 ++ [47] := ⟨_, rfl⟩
          have l4 : x4.length ≤ 46 := by rw [hx4]; simp; omega
          rw [← hx4] at s6
          have s7 := fun w' : World => run_add_S' w' x4 p (by omega)
          obtain ⟨y1, hy1⟩ : ∃ y1 : List UInt8, y1 = x1 ++ p := ⟨_, rfl⟩
          obtain ⟨y2, hy2⟩ : ∃ y2 : List UInt8, y2 = x2 ++ p := ⟨_, rfl⟩
          obtain ⟨y3, hy3⟩ : ∃ y3 : List UInt8, y3 = x4 ++ p := ⟨_, rfl⟩
          have P1 := Lib.hid (show Url.parse y1 = res by rw [hy1, hx1, List.append_assoc]; exact Q1.out)
          have P2 := Lib.hid (show Url.parse y2 = res by rw [hy2, hx2, List.append_assoc]; exact Q2.out)
          have P3 := Lib.hid (show Url.parse y3 = res by rw [hy3, hx4, hx3, List.append_assoc, List.append_assoc]; exact Q3.out)
          rw [← hy1] at s4
          rw [← hy2] at s5
          rw [← hy3] at s7
          clear hx1 hx2 hx3 hx4 hy1 hy2 hy3 Q1 Q2 Q3
          have he1 := he.next hb
          cases res with
          | error n =>
            have hne := err_ne P1.out
            go_wp2_with fail
            refine (parse_err' y1 n _ he1 P1.out).mono ?_
            rintro e w2 ⟨rfl, hb2⟩
            have bu2 := blk_new w2 zeroU
            have hb2' := (below_next hb hb2).alloc (below_next hb hb2).size (uObj zeroU)
            have he2 := he.next hb2'
            clear hb2 he1
            go_wp2_with fail
            refine (parse_err' y2 n _ he2 P2.out).mono ?_
            rintro e w3 ⟨rfl, hb3⟩
            have bu3 := (bu2.past hb3).more (uObj zeroU)
            have bv3 := blk_new w3 zeroU
            have hb3' := (below_next hb2' hb3).alloc (below_next hb2' hb3).size (uObj zeroU)
            have he3 := he.next hb3'
            clear hb2' hb3 he2 bu2
            go_wp2_with fail
            refine (parse_err' y3 n _ he3 P3.out).mono ?_
            rintro e w4 ⟨rfl, hb4⟩
            have bu4 := bu3.past hb4
            have bv4 := bv3.past hb4
            have hb4' := (below_next hb3' hb4).alloc (below_next hb3' hb4).size (uObj zeroU)
            clear hb3' hb4 he3 bu3 bv3
            obtain ⟨a0, a1, a2, a3, a4, a5⟩ := bu4.zeroO
            obtain ⟨b0, b1, b2, b3, b4, b5⟩ := bv4.zeroO
            have q1 : ∀ w' : World, (binOp .eql 24 (.agg #[.string ⟨#[]⟩, .string ⟨#[]⟩, .int .i64 0, .string ⟨#[]⟩, .string ⟨#[]⟩, .bool false]) (.agg #[.string ⟨#[]⟩, .string ⟨#[]⟩, .int .i64 0, .string ⟨#[]⟩, .string ⟨#[]⟩, .bool false])).run Tryd.prog w' = .ok (.bool true) w' := fun w' => run_eq_url w' zeroU zeroU
            have hgd := Tryd.guardU
            clear bu4 bv4
            go_wp2_with fail
            go_ret
            exact ⟨rfl, hb4'⟩
          | ok u =>
            have gu := parse_good P1.out
            have hfew := gu.few
            obtain ⟨hpt, hor⟩ := HTO.out u rfl
            have HPT := Lib.hid hpt
            clear gu hpt
            go_wp2_with fail
            refine (parse_ok' y1 u _ he1 P1.out).mono ?_
            rintro e w2 ⟨rfl, hb2⟩
            have bu2 := blk_new w2 u
            have hb2' := (below_next hb hb2).alloc (below_next hb hb2).size (uObj u)
            have he2 := he.next hb2'
            clear hb2 he1
            go_wp2_with fail
            refine (parse_ok' y2 u _ he2 P2.out).mono ?_
            rintro e w3 ⟨rfl, hb3⟩
            have bu3 := (bu2.past hb3).more (uObj u)
            have bv3 := blk_new w3 u
            have hb3' := (below_next hb2' hb3).alloc (below_next hb2' hb3).size (uObj u)
            have he3 := he.next hb3'
            clear hb2' hb3 he2 bu2
            go_wp2_with fail
            refine (parse_ok' y3 u _ he3 P3.out).mono ?_
            rintro e w4 ⟨rfl, hb4⟩
            have bu4 := bu3.past hb4
            have bv4 := bv3.past hb4
            have hb4' := (below_next hb3' hb4).alloc (below_next hb3' hb4).size (uObj u)
            have he4 := he.next hb4'
            clear hb3' hb4 he3 bu3 bv3
            obtain ⟨a0, a1, a2, a3, a4, a5⟩ := bu4.sixO
            obtain ⟨b0, b1, b2, b3, b4, b5⟩ := bv4.sixO
            have q1 : ∀ w' : World, (binOp .eql 24 (.agg #[.string (S u.scheme), .string (S u.host), .int .i64 (u.port : Int), .string (S u.path), .string (S u.query), .bool u.ask]) (.agg #[.string (S u.scheme), .string (S u.host), .int .i64 (u.port : Int), .string (S u.path), .string (S u.query), .bool u.ask])).run Tryd.prog w' = .ok (.bool true) w' := fun w' => by
              have := run_eq_url w' u u
              rw [uEq_self] at this
              exact this
            have hgd := Tryd.guardU
            have HO := Lib.hid (fun w' => fun he' : Env w' => origin_any u w' he' hfew)
            unfold uV uCells at HO
            rw [hor] at HO
            clear bu4 bv4 hor
            have hpt0 : ((u.port : Int) == 0) = true := by rw [HPT.out]; rfl
            go_wp2_with fail
            refine (HO.out _ he4).mono ?_
            rintro e w5 ⟨rfl, hb5⟩
            go_wp2
            go_ret
            exact ⟨rfl, below_next hb4' hb5⟩

set_option maxHeartbeats 4000000 in
theorem urlCases_https (A0 A2 : Option Addr) (c0 c2 : Nat) (hl : List UInt8) (p : List UInt8) (gr : List Bool) (w : World) (he : Env w) (hh : BCells w w.heap.size A0 hl) (hg : LCells w w.heap.size A2 gr) (hg63 : gr.length ≤ 9223372036854775807) (h1 : 1 ≤ hl.length) (h30 : hl.length ≤ 30) (hp : p.length ≤ 100) :
    Calls Tryd.prog 8 #[.slice A0 hl.length c0, .string (S p), .slice A2 gr.length c2, .bool true] w (AwakePost w) := by
  have hS := S_list
  have hzp : (S p).size = p.length := rfl
  have ad : ∀ w' : World, (Op.stringOp .add ⟨#[104, 116, 116, 112, 115]⟩ ⟨#[58, 47, 47]⟩).run Tryd.prog w' = .ok (.string (S (Url.https ++ Url.sep))) w' := fun w' => run_add_S' w' Url.https Url.sep (by decide)
  obtain ⟨pre, hpre⟩ : ∃ pre : List UInt8, Url.https ++ Url.sep = pre := ⟨_, rfl⟩
  have hprel : pre.length ≤ 8 := by rw [← hpre]; decide
  rw [hpre] at ad
  have HPRE := Lib.hid hpre
  clear hpre
  go_enter Tryd.func8, Tryd.ntmps8
  go_wp2_with fail
  refine (awake_url w he).mono ?_
  rintro e w1 ⟨rfl, hb1⟩
  go_wp2
  go_loopw [10, 12] (fun v i wr => ∃ (k : Nat) (hs : List UInt8), k ≤ hl.length ∧ i = .int .i64 k ∧ v = .string (S (pre ++ hs)) ∧ hs.length = k ∧ hs.all lowB = true ∧ Below w.heap.size w wr) (fun _ i _ => hl.length - (intOf i).toNat)
  case atStart => exact ⟨0, [], Nat.zero_le _, rfl, by rw [List.append_nil], rfl, rfl, hb1⟩
  case round =>
    obtain ⟨k, hs, hk, rfl, rfl, hsl, hsa, hb⟩ := hrel
    have HSA := Lib.hid hsa
    clear hsa
    have hbs := hb.size
    by_cases hlt : k < hl.length
    · obtain ⟨b, off, rfl, hbb, hc⟩ := hh.below hb (by omega)
      have hck := hc k hlt
      clear hc
      have i0 : (0 : Int) ≤ (k : Int) := by omega
      have i1 : (k : Int) < (hl.length : Int) := by omega
      obtain ⟨x, hx⟩ : ∃ x, x = hl[k] := ⟨_, rfl⟩
      rw [← hx] at hck
      clear hx
      have hx8 := Pct.u8_lt x
      have a2 := run_one wr (letter x)
      unfold B at a2
      rw [letter_nat] at a2
      obtain ⟨y, hy⟩ : ∃ y : List UInt8, y = pre ++ hs := ⟨_, rfl⟩
      have hyl : y.length ≤ 38 := by rw [hy]; simp; omega
      have HY := Lib.hid hy
      rw [← hy]
      clear hy
      have a1 := fun w' : World => run_add_S' w' y [letter x] (by simp; omega)
      go_wp2
      go_roundw
      case rel =>
        refine ⟨k + 1, hs ++ [letter x], by omega, by go_num, by rw [HY.out, List.append_assoc], by simp; omega, ?_, hb.alloc hbs _⟩
        rw [List.all_append, HSA.out]
        simp [letter_low]
      case measure => simp [intOf]; omega
    · have hkl : hs.length = hl.length := by omega
      have hs0 : hs ≠ [] := by
        intro e
        rw [e] at hkl
        simp at hkl
        omega
      have ha1 : pre ++ hs = Url.https ++ (Url.sep ++ hs) := by rw [← HPRE.out, List.append_assoc]
      obtain ⟨a, ha⟩ : ∃ a : List UInt8, a = pre ++ hs := ⟨_, rfl⟩
      have hal : a.length ≤ 38 := by rw [ha]; simp; omega
      rw [← ha] at ha1
      rw [← ha]
      clear ha
      have hsm : Url.small a = a := by
        rw [ha1, small_append, small_append, low_small HSA.out]
        rfl
      have HSM := Lib.hid hsm
      have HA := Lib.hid ha1
      have hs30 : hs.length ≤ 30 := by omega
      have HS0 := Lib.hid hs0
      clear hsm ha1 hkl hs0 hsl
      have hsz : (S a).size = a.length := rfl
      have hbe := hb
      go_wp2
      go_loopw [13, 14] (fun v i wr => ∃ (k : Nat) (acc : List UInt8), k ≤ a.length ∧ i = .int .i64 k ∧ v = .string (S acc) ∧ acc.length = k ∧ Url.small acc = a.take k ∧ Below w.heap.size w wr) (fun _ i _ => a.length - (intOf i).toNat)
      case atStart => exact ⟨0, [], Nat.zero_le _, rfl, rfl, rfl, rfl, hb⟩
      case round =>
        clear hb hbs hbe
        obtain ⟨k, acc, hk, rfl, rfl, hal2, hsm, hb⟩ := hrel
        have hbs := hb.size
        by_cases hlt : k < a.length
        · obtain ⟨x, hx⟩ : ∃ x : UInt8, a[k]'hlt = x := ⟨_, rfl⟩
          have HTK := Lib.hid (show a.take (k + 1) = a.take k ++ [x] by rw [← hx]; exact List.take_succ_eq_append_getElem hlt)
          have hlow : Url.lower x = x := by
            have h1 := congrArg (fun l : List UInt8 => l[k]?) HSM.out
            simp [Url.small, hlt] at h1
            rw [hx] at h1
            exact h1
          have HACC := Lib.hid hsm
          clear hsm
          have i0 : (0 : Int) ≤ (k : Int) := by omega
          have i1 : (k : Int) < (a.length : Int) := by omega
          have hik : k < (S a).size := hlt
          have hax : (S a)[k] = x := hx
          clear hx
          have hx8 := Pct.u8_lt x
          have HL := Lib.hid hlow
          clear hlow
          by_cases hgk : ∃ h : k < gr.length, gr[k] = true
          · obtain ⟨hgl, hgt⟩ := hgk
            obtain ⟨b, off, rfl, hbb, hc⟩ := hg.below hb (by omega)
            have hck := hc k hgl
            rw [hgt] at hck
            clear hc hgt
            have j1 : (k : Int) < (gr.length : Int) := by omega
            by_cases hlb : lowB x = true
            · obtain ⟨l1, l2⟩ := of_decide_eq_true (p := 97 ≤ x.toNat ∧ x.toNat ≤ 122) hlb
              have HG := Lib.hid (low_great x hlb)
              have a2 := run_one wr (UInt8.ofNat (x.toNat - 32))
              unfold B at a2
              rw [great_nat hlb] at a2
              clear hlb
              obtain ⟨z, hz⟩ : ∃ z, UInt8.ofNat (x.toNat - 32) = z := ⟨_, rfl⟩
              rw [hz] at a2 HG
              clear hz
              have a1 := fun w' : World => run_add_S' w' acc [z] (by simp; omega)
              go_wp2
              go_roundw
              case rel => exact ⟨k + 1, acc ++ [z], by omega, by go_num, rfl, by simp; omega, by rw [small_append, HACC.out, HTK.out]; simp [Url.small, HG.out], hb.alloc hbs _⟩
              case measure => simp [intOf]; omega
            · have hnl : x.toNat < 97 ∨ 122 < x.toNat := by
                have := of_decide_eq_false (p := 97 ≤ x.toNat ∧ x.toNat ≤ 122) (by simpa [lowB] using hlb)
                omega
              have a2 := run_one wr x
              unfold B at a2
              have a1 := fun w' : World => run_add_S' w' acc [x] (by simp; omega)
              clear hlb
              by_cases hn1 : x.toNat < 97
              · clear hnl
                go_wp2
                go_roundw
                case rel => exact ⟨k + 1, acc ++ [x], by omega, by go_num, rfl, by simp; omega, by rw [small_append, HACC.out, HTK.out]; simp [Url.small, HL.out], hb.alloc hbs _⟩
                case measure => simp [intOf]; omega
              · have hn2 : 122 < x.toNat := by omega
                clear hnl
                go_wp2
                go_roundw
                case rel => exact ⟨k + 1, acc ++ [x], by omega, by go_num, rfl, by simp; omega, by rw [small_append, HACC.out, HTK.out]; simp [Url.small, HL.out], hb.alloc hbs _⟩
                case measure => simp [intOf]; omega
          · have a2 := run_one wr x
            unfold B at a2
            have a1 := fun w' : World => run_add_S' w' acc [x] (by simp; omega)
            by_cases hgl : k < gr.length
            · have hgf : gr[k] = false := by
                cases h : gr[k] with
                | false => rfl
                | true => exact absurd ⟨hgl, h⟩ hgk
              obtain ⟨b, off, rfl, hbb, hc⟩ := hg.below hb (by omega)
              have hck := hc k hgl
              rw [hgf] at hck
              clear hc hgf hgk
              have j1 : (k : Int) < (gr.length : Int) := by omega
              go_wp2
              go_roundw
              case rel => exact ⟨k + 1, acc ++ [x], by omega, by go_num, rfl, by simp; omega, by rw [small_append, HACC.out, HTK.out]; simp [Url.small, HL.out], hb.alloc hbs _⟩
              case measure => simp [intOf]; omega
            · clear hgk
              go_wp2
              go_roundw
              case rel => exact ⟨k + 1, acc ++ [x], by omega, by go_num, rfl, by simp; omega, by rw [small_append, HACC.out, HTK.out]; simp [Url.small, HL.out], hb.alloc hbs _⟩
              case measure => simp [intOf]; omega
        · rw [List.take_of_length_le (by omega)] at hsm
          have hcs := cases_one (sc := Url.https) (pt := [58, 52, 52, 51]) (a := a) (b := acc) (p := p) (n := 443) (.inr rfl) (port_443 p) (by decide) ⟨_, rfl⟩ (by decide) HA.out hsm HSA.out HS0.out hs30 hp
          have HTO := Lib.hid (fun u h => tail_origin (sc := Url.https) (h := hs) (r := 47 :: p) (u := u) h)
          rw [← HA.out] at HTO
          generalize Url.tail3 Url.https hs 0 (47 :: p) = res at hcs HTO
          obtain ⟨q1, q2, q3⟩ := hcs
          have Q1 := Lib.hid q1
          have Q2 := Lib.hid q2
          have Q3 := Lib.hid q3
          clear hsm q1 q2 q3
          have hacl : acc.length ≤ 38 := by omega
          have s1 : ∀ w' : World, (Op.stringOp .add (S a) ⟨#[47]⟩).run Tryd.prog w' = .ok (.string (S (a ++ [47]))) w' := fun w' => run_add_S' w' a [47] (by simp; omega)
          have s2 : ∀ w' : World, (Op.stringOp .add (S acc) ⟨#[47]⟩).run Tryd.prog w' = .ok (.string (S (acc ++ [47]))) w' := fun w' => run_add_S' w' acc [47] (by simp; omega)
          have s3 : ∀ w' : World, (Op.stringOp .add (S acc) ⟨#[58, 52, 52, 51]⟩).run Tryd.prog w' = .ok (.string (S (acc ++ [58, 52, 52, 51]))) w' := fun w' => run_add_S' w' acc [58, 52, 52, 51] (by simp; omega)
          obtain ⟨x1, hx1⟩ : ∃ x1 : List UInt8, x1 = a ++ [47] := ⟨_, rfl⟩
          obtain ⟨x2, hx2⟩ : ∃ x2 : List UInt8, x2 = acc ++ [47] := ⟨_, rfl⟩
          obtain ⟨x3, hx3⟩ : ∃ x3 : List UInt8, x3 = acc ++ [58, 52, 52, 51] := ⟨_, rfl⟩
          have l1 : x1.length ≤ 40 := by rw [hx1]; simp; omega
          have l2 : x2.length ≤ 40 := by rw [hx2]; simp; omega
          have l3 : x3.length ≤ 45 := by rw [hx3]; simp; omega
          rw [← hx1] at s1
          rw [← hx2] at s2
          rw [← hx3] at s3
          have s4 := fun w' : World => run_add_S' w' x1 p (by omega)
          have s5 := fun w' : World => run_add_S' w' x2 p (by omega)
          have s6 : ∀ w' : World, (Op.stringOp .add (S x3) ⟨#[47]⟩).run Tryd.prog w' = .ok (.string (S (x3 ++ [47]))) w' := fun w' => run_add_S' w' x3 [47] (by simp; omega)
          obtain ⟨x4, hx4⟩ : ∃ x4 : List UInt8, x4 = x3 ++ [47] := ⟨_, rfl⟩
          have l4 : x4.length ≤ 46 := by rw [hx4]; simp; omega
          rw [← hx4] at s6
          have s7 := fun w' : World => run_add_S' w' x4 p (by omega)
          obtain ⟨y1, hy1⟩ : ∃ y1 : List UInt8, y1 = x1 ++ p := ⟨_, rfl⟩
          obtain ⟨y2, hy2⟩ : ∃ y2 : List UInt8, y2 = x2 ++ p := ⟨_, rfl⟩
          obtain ⟨y3, hy3⟩ : ∃ y3 : List UInt8, y3 = x4 ++ p := ⟨_, rfl⟩
          have P1 := Lib.hid (show Url.parse y1 = res by rw [hy1, hx1, List.append_assoc]; exact Q1.out)
          have P2 := Lib.hid (show Url.parse y2 = res by rw [hy2, hx2, List.append_assoc]; exact Q2.out)
          have P3 := Lib.hid (show Url.parse y3 = res by rw [hy3, hx4, hx3, List.append_assoc, List.append_assoc]; exact Q3.out)
          rw [← hy1] at s4
          rw [← hy2] at s5
          rw [← hy3] at s7
          clear hx1 hx2 hx3 hx4 hy1 hy2 hy3 Q1 Q2 Q3
          have he1 := he.next hb
          cases res with
          | error n =>
            have hne := err_ne P1.out
            go_wp2_with fail
            refine (parse_err' y1 n _ he1 P1.out).mono ?_
            rintro e w2 ⟨rfl, hb2⟩
            have bu2 := blk_new w2 zeroU
            have hb2' := (below_next hb hb2).alloc (below_next hb hb2).size (uObj zeroU)
            have he2 := he.next hb2'
            clear hb2 he1
            go_wp2_with fail
            refine (parse_err' y2 n _ he2 P2.out).mono ?_
            rintro e w3 ⟨rfl, hb3⟩
            have bu3 := (bu2.past hb3).more (uObj zeroU)
            have bv3 := blk_new w3 zeroU
            have hb3' := (below_next hb2' hb3).alloc (below_next hb2' hb3).size (uObj zeroU)
            have he3 := he.next hb3'
            clear hb2' hb3 he2 bu2
            go_wp2_with fail
            refine (parse_err' y3 n _ he3 P3.out).mono ?_
            rintro e w4 ⟨rfl, hb4⟩
            have bu4 := bu3.past hb4
            have bv4 := bv3.past hb4
            have hb4' := (below_next hb3' hb4).alloc (below_next hb3' hb4).size (uObj zeroU)
            clear hb3' hb4 he3 bu3 bv3
            obtain ⟨a0, a1, a2, a3, a4, a5⟩ := bu4.zeroO
            obtain ⟨b0, b1, b2, b3, b4, b5⟩ := bv4.zeroO
            have q1 : ∀ w' : World, (binOp .eql 24 (.agg #[.string ⟨#[]⟩, .string ⟨#[]⟩, .int .i64 0, .string ⟨#[]⟩, .string ⟨#[]⟩, .bool false]) (.agg #[.string ⟨#[]⟩, .string ⟨#[]⟩, .int .i64 0, .string ⟨#[]⟩, .string ⟨#[]⟩, .bool false])).run Tryd.prog w' = .ok (.bool true) w' := fun w' => run_eq_url w' zeroU zeroU
            have hgd := Tryd.guardU
            clear bu4 bv4
            go_wp2_with fail
            go_ret
            exact ⟨rfl, hb4'⟩
          | ok u =>
            have gu := parse_good P1.out
            have hfew := gu.few
            obtain ⟨hpt, hor⟩ := HTO.out u rfl
            have HPT := Lib.hid hpt
            clear gu hpt
            go_wp2_with fail
            refine (parse_ok' y1 u _ he1 P1.out).mono ?_
            rintro e w2 ⟨rfl, hb2⟩
            have bu2 := blk_new w2 u
            have hb2' := (below_next hb hb2).alloc (below_next hb hb2).size (uObj u)
            have he2 := he.next hb2'
            clear hb2 he1
            go_wp2_with fail
            refine (parse_ok' y2 u _ he2 P2.out).mono ?_
            rintro e w3 ⟨rfl, hb3⟩
            have bu3 := (bu2.past hb3).more (uObj u)
            have bv3 := blk_new w3 u
            have hb3' := (below_next hb2' hb3).alloc (below_next hb2' hb3).size (uObj u)
            have he3 := he.next hb3'
            clear hb2' hb3 he2 bu2
            go_wp2_with fail
            refine (parse_ok' y3 u _ he3 P3.out).mono ?_
            rintro e w4 ⟨rfl, hb4⟩
            have bu4 := bu3.past hb4
            have bv4 := bv3.past hb4
            have hb4' := (below_next hb3' hb4).alloc (below_next hb3' hb4).size (uObj u)
            have he4 := he.next hb4'
            clear hb3' hb4 he3 bu3 bv3
            obtain ⟨a0, a1, a2, a3, a4, a5⟩ := bu4.sixO
            obtain ⟨b0, b1, b2, b3, b4, b5⟩ := bv4.sixO
            have q1 : ∀ w' : World, (binOp .eql 24 (.agg #[.string (S u.scheme), .string (S u.host), .int .i64 (u.port : Int), .string (S u.path), .string (S u.query), .bool u.ask]) (.agg #[.string (S u.scheme), .string (S u.host), .int .i64 (u.port : Int), .string (S u.path), .string (S u.query), .bool u.ask])).run Tryd.prog w' = .ok (.bool true) w' := fun w' => by
              have := run_eq_url w' u u
              rw [uEq_self] at this
              exact this
            have hgd := Tryd.guardU
            have HO := Lib.hid (fun w' => fun he' : Env w' => origin_any u w' he' hfew)
            unfold uV uCells at HO
            rw [hor] at HO
            clear bu4 bv4 hor
            have hpt0 : ((u.port : Int) == 0) = true := by rw [HPT.out]; rfl
            go_wp2_with fail
            refine (HO.out _ he4).mono ?_
            rintro e w5 ⟨rfl, hb5⟩
            go_wp2
            go_ret
            exact ⟨rfl, below_next hb4' hb5⟩

set_option maxHeartbeats 800000 in
theorem urlCases_any (A0 A2 : Option Addr) (c0 c2 : Nat) (hl : List UInt8) (p : ByteArray) (gr : List Bool) (safe : Bool) (w : World) (he : Env w) (hh : BCells w w.heap.size A0 hl) (hg : LCells w w.heap.size A2 gr) (hl63 : hl.length ≤ 9223372036854775807) (hg63 : gr.length ≤ 9223372036854775807) :
    Calls Tryd.prog 8 #[.slice A0 hl.length c0, .string p, .slice A2 gr.length c2, .bool safe] w (AwakePost w) := by
  obtain ⟨q, rfl⟩ : ∃ q, p = S q := ⟨p.data.toList, rfl⟩
  have hzp : (S q).size = q.length := rfl
  by_cases h1 : 1 ≤ hl.length
  · by_cases h30 : hl.length ≤ 30
    · by_cases hp : q.length ≤ 100
      · clear hzp
        cases safe with
        | false => exact urlCases_http A0 A2 c0 c2 hl q gr w he hh hg hg63 h1 h30 hp
        | true => exact urlCases_https A0 A2 c0 c2 hl q gr w he hh hg hg63 h1 h30 hp
      · go_enter Tryd.func8, Tryd.ntmps8
        go_wp2_with fail
        refine (awake_url w he).mono ?_
        rintro e w1 ⟨rfl, hb1⟩
        go_wp2
        go_ret
        exact ⟨rfl, hb1⟩
    · go_enter Tryd.func8, Tryd.ntmps8
      go_wp2_with fail
      refine (awake_url w he).mono ?_
      rintro e w1 ⟨rfl, hb1⟩
      go_wp2
      go_ret
      exact ⟨rfl, hb1⟩
  · go_enter Tryd.func8, Tryd.ntmps8
    go_wp2_with fail
    refine (awake_url w he).mono ?_
    rintro e w1 ⟨rfl, hb1⟩
    go_wp2
    go_ret
    exact ⟨rfl, hb1⟩
end Go.Proofs.YtndimjkdmhhohaaDoor
