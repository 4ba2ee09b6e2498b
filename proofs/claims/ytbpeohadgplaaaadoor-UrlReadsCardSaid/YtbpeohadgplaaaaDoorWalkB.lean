/- What the calls appendEncoded and Encode of package pct do, for any byte and any text, where the table of digits reads as its text lays it and nothing outgrows 2^40 bytes. -/
import Derived.Test.YtbpeohadgplaaaaDoorWalkA
import Derived.Deep.RegionHeld3
import Derived.Deep.AppendLies
import Derived.Laws.IdiomStrings
import Derived.Lib.BufferRead
import Derived.Laws.BitsLemmas
namespace Go.Proofs.YtbpeohadgplaaaaDoor
set_option maxRecDepth 8000
open Go.RowKit

theorem Tryd.infoByte : (Tryd.prog.info? 5).map (fun i => (i.zero, i.size, i.bytes)) = some (some (.int .u8 0), 1, 1) := by kernel_rfl

/-- The slice value v owns the bytes l, in a row of block 'base' or later. -/
def Row (base : Nat) (w : World) (v : Value) (l : List UInt8) : Prop := w.ownsRow base 5 1 v l.length (l.map B)

def Appended (base : Nat) (w : World) (l : List UInt8) (e : Ending) (w' : World) : Prop :=
  ∃ v', e = .returned v' ∧ Row base w' v' l ∧ Below base w w'

theorem Digs.below {base : Nat} {w w' : World} (hd : Digs w) (hb : Below base w w') (h0 : 1 < base) : Digs w' :=
  fun j v hv => (hb.cell (p := ⟨1, 0 + j, none⟩) h0).trans (hd j v hv)
theorem Digs.lt {w : World} (hd : Digs w) : 1 < w.heap.size :=
  World.block_lt_of_cell? w _ (hd 0 (.int .u8 48) rfl)
theorem Digs.at {w : World} (hd : Digs w) (k : Nat) (hk : k < 22) : w.cell? ⟨1, k, none⟩ = some (.int .u8 (Pct.dgt k : Int)) := by
  have := hd k _ (digs_at k hk)
  rwa [Nat.zero_add] at this

theorem appended_mk {base : Nat} {w w1 : World} {l : List UInt8} (m : List UInt8) {gg cap : Nat}
    (hown1 : w1.ownsRow base 5 1 (.slice (some ⟨gg, 0, none⟩) (l.length + m.length) cap) (l.length + m.length) (l.map B ++ m.map B)) (hb : Below base w w1) :
    Appended base w (l ++ m) (.returned (.slice (some ⟨gg, 0, none⟩) (l.length + m.length) cap)) w1 :=
  ⟨_, rfl, by unfold Row; rw [List.length_append, List.map_append]; exact hown1, hb⟩

theorem dig_toNats : ∀ n : Nat, n < 16 → (Pct.dig n).toNat = Pct.dgt n := by decide +kernel
theorem dig_toNat (n : Nat) (h : n < 16) : (Pct.dig n).toNat = Pct.dgt n := dig_toNats n h

set_option maxHeartbeats 400000 in
theorem appendEncoded_plain (base : Nat) (v : Value) (l : List UInt8) (c : UInt8) (w : World) (hrow : Row base w v l) (hbase : base ≤ w.heap.size) (hl : l.length ≤ 1099511627776) (hp : Pct.plainB c = true) :
    Calls Tryd.prog 103 #[v, B c] w (Appended base w (l ++ [c])) := by
  obtain ⟨i0, hi0, hz0, hz1, hz2⟩ := info_parts Tryd.infoByte
  have HP := Lib.hid hp
  clear hp
  have hown : w.ownsRow base 5 1 v l.length (l.map B) := hrow
  have h63 : l.length + 3 ≤ maxLen := by unfold maxLen; omega
  go_enter Tryd.func103, Tryd.ntmps103
  go_wp2_with (first
    | (go_at_call 72; refine (plain_any _ _).mono ?_; rintro e w' ⟨rfl, rfl⟩; rw [HP.out])
    | (at_builtin; refine wpList_append_lies _ rfl (.tmp 7) (.tmp 9) _ rfl base 5 i0 _ 1 1 Tryd.underlying77 hi0 hz0 hz1 hz2 rfl (by omega) v l.length (l.map B) rfl (hown.alloc _) ⟨w.heap.size, 0, none⟩ 1 1 [B c] rfl rfl (World.news_of_block (cs := #[B c]) (t := 5) (fr := (0, 0)) (heap_alloc_new w _)) (by simp [Value.oneCell']) (by omega) (by omega) (by omega) (by simp; omega) (w.heap.size + 1) (by simp) ?_; intro gg cap w1 hown1 hgrow hat hlt))
  go_ret
  exact appended_mk [c] hown1 (((Below.refl _ _).alloc hbase _).grown hgrow (by simp; omega) (fun k hk => (hown.lt k hk).1))

set_option maxHeartbeats 400000 in
theorem appendEncoded_other (base : Nat) (v : Value) (l : List UInt8) (c : UInt8) (w : World) (hrow : Row base w v l) (hbase : base ≤ w.heap.size) (hl : l.length ≤ 1099511627776) (hp : Pct.plainB c = false) (hd : Digs w) (h0 : 1 < base) :
    Calls Tryd.prog 103 #[v, B c] w (Appended base w (l ++ [37, Pct.dig (c.toNat / 16), Pct.dig (c.toNat % 16)])) := by
  obtain ⟨i0, hi0, hz0, hz1, hz2⟩ := info_parts Tryd.infoByte
  have HP := Lib.hid hp
  clear hp
  have hown : w.ownsRow base 5 1 v l.length (l.map B) := hrow
  have h63 : l.length + 3 ≤ maxLen := by unfold maxLen; omega
  have hb8 := Pct.u8_lt c
  have lg := hd.lt
  have c1 : w.cell? ⟨1, ((c.toNat : Int) / 16).toNat, none⟩ = some (.int .u8 (Pct.dgt (c.toNat / 16) : Int)) := by rw [show ((c.toNat : Int) / 16).toNat = c.toNat / 16 by omega]; exact hd.at (c.toNat / 16) (by omega)
  have c2 : w.cell? ⟨1, ((c.toNat : Int) % 16).toNat, none⟩ = some (.int .u8 (Pct.dgt (c.toNat % 16) : Int)) := by rw [show ((c.toNat : Int) % 16).toNat = c.toNat % 16 by omega]; exact hd.at (c.toNat % 16) (by omega)
  have hand : bits BinOp.and IntKind.u8 (c.toNat : Int) 15 = (c.toNat : Int) % 16 := u8_and15 _ (by omega) (by omega)
  have ag : some 1 ≠ v.ownBlock := fun h => by have := (hown.lt _ h.symm).1; omega
  have k1 : (0 : Int) ≤ (c.toNat : Int) / 16 := by omega
  have k2 : (c.toNat : Int) / 16 < 22 := by omega
  have k3 : (0 : Int) ≤ (c.toNat : Int) % 16 := by omega
  have k4 : (c.toNat : Int) % 16 < 22 := by omega
  go_enter Tryd.func103, Tryd.ntmps103
  go_wp2_with (go_at_call 72; refine (plain_any _ _).mono ?_; rintro e w' ⟨rfl, rfl⟩; rw [HP.out])
  go_region_held3 (fun w' => w'.cell? ⟨1, ((c.toNat : Int) / 16).toNat, none⟩ = some (.int .u8 (Pct.dgt (c.toNat / 16) : Int)) ∧ w'.cell? ⟨1, ((c.toNat : Int) % 16).toNat, none⟩ = some (.int .u8 (Pct.dgt (c.toNat % 16) : Int)))
    (first
      | go_keep
      | (go_split_ands
         refine ⟨?_, ?_⟩
         · (rw [hgrow.cell_far _ (by first | (simp; done) | (simp; omega)) ag]; assumption)
         · (rw [hgrow.cell_far _ (by first | (simp; done) | (simp; omega)) ag]; assumption)))
    ((refine step_append_lies _ (by rfl) _ _ _ (by rfl) base 5 i0 _ 1 1 Tryd.underlying77 hi0 hz0 hz1 hz2 rfl (by omega) v l.length (l.map B) (by rfl) ((hown.alloc _).drew)
        ⟨w.heap.size, 0, none⟩ 3 3 [.int .u8 37, .int .u8 (Pct.dgt (c.toNat / 16) : Int), .int .u8 (Pct.dgt (c.toNat % 16) : Int)] (by rfl) (by rfl) (World.news_of_block (cs := #[.int .u8 37, .int .u8 (Pct.dgt (c.toNat / 16) : Int), .int .u8 (Pct.dgt (c.toNat % 16) : Int)]) (t := 5) (fr := (0, 0)) (heap_alloc_new w _)) (by simp [Value.oneCell'])
        (by omega) (by omega) (by omega) (by simp; omega) (w.heap.size + 1) (by simp) ?_; intro gg cap w1 hown1 hgrow hat hlt))
  go_wp2
  go_ret
  have hnew : ([Value.int .u8 37, Value.int .u8 (Pct.dgt (c.toNat / 16) : Int), Value.int .u8 (Pct.dgt (c.toNat % 16) : Int)] : List Value) = [37, Pct.dig (c.toNat / 16), Pct.dig (c.toNat % 16)].map B := by
    simp [B, dig_toNat (c.toNat / 16) (by omega), dig_toNat (c.toNat % 16) (by omega)]
  rw [hnew] at hown1
  exact appended_mk [37, Pct.dig (c.toNat / 16), Pct.dig (c.toNat % 16)] hown1 ((((Below.refl _ _).alloc hbase _).drew).grown hgrow (by simp; omega) (fun k hk => (hown.lt k hk).1))

theorem appendEncoded_any (base : Nat) (v : Value) (l : List UInt8) (c : UInt8) (w : World) (hrow : Row base w v l) (hbase : base ≤ w.heap.size) (hl : l.length ≤ 1099511627776) (hd : Digs w) (h0 : 1 < base) :
    Calls Tryd.prog 103 #[v, B c] w (Appended base w (l ++ Pct.enc1 c)) := by
  unfold Pct.enc1
  by_cases hp : Pct.plainB c = true
  · rw [if_pos hp]
    exact appendEncoded_plain base v l c w hrow hbase hl hp
  · rw [if_neg hp]
    exact appendEncoded_other base v l c w hrow hbase hl (by simpa using hp) hd h0

/-- 'string(b)' of a row of the call's own. -/
theorem row_string {base : Nat} {w : World} {v : Value} {l : List UInt8} (h : Row base w v l) : (convert 77 9 v).run Tryd.prog w = .ok (.string ⟨l.toArray⟩) w := by
  rcases h.2 with ⟨rfl, hn⟩ | ⟨g, cap, cur, rfl, _, hg, _, _, _, ht⟩
  · have : l = [] := List.length_eq_zero_iff.1 hn
    subst this
    exact Lib.run_convert_nil_bytes w 77 9 5 0 Tryd.underlying77 Tryd.underlying5 Tryd.underlying9
  · refine run_convert_bytes_back w 77 9 5 ⟨g, 0, none⟩ cap l Tryd.underlying77 Tryd.underlying5 Tryd.underlying9 (fun j hj => ?_)
    exact h.cells (g := g) rfl j _ (by simp [hj])

def S (l : List UInt8) : ByteArray := ⟨l.toArray⟩

def Told (w : World) (e' : Ending) (e : Ending) (w' : World) : Prop := e = e' ∧ Below w.heap.size w w'

theorem take_snoc (s : ByteArray) (k : Nat) (h : k < s.size) : s.data.toList.take (k + 1) = s.data.toList.take k ++ [s[k]] := by
  rw [List.take_succ_eq_append_getElem (by simpa using h)]; rfl

end Go.Proofs.YtbpeohadgplaaaaDoor
