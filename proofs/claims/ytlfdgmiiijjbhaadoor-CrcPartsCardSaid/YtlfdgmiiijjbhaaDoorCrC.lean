/- What the call Last of package crc does, for any bytes (at most 2^63 - 1 of them) and any sum, and that the chapter's examples come out (awake), where the table reads as its text lays it. -/
import Derived.Test.YtlfdgmiiijjbhaaDoorCrB
import Derived.Lib.SlBytesConst
namespace Go.Proofs.YtlfdgmiiijjbhaaDoor
set_option maxRecDepth 8000
open Go.RowKit

def LastPost (w : World) (l : List UInt8) (e : Ending) (w' : World) : Prop :=
  e = .returned (.slice (some ⟨w.heap.size, 0, none⟩) 4 4) ∧ w' = w.alloc (.cells ((l.map B).toArray) 5 (0, 0))
theorem to_u8 (n : Nat) : IntKind.u8.wrap (n : Int) = ((UInt8.ofNat n).toNat : Int) := by
  rw [IntKind.wrap_u8', UInt8.toNat_ofNat']
  omega

set_option maxHeartbeats 400000 in
theorem last_any (A : Option Addr) (l : List UInt8) (cap want : Nat) (w : World) (hH : Hs w) (hl : l.length ≤ 9223372036854775807) (hb : BC w A l) (hw : want < 4294967296) :
    Calls Tryd.prog 15 #[.slice A l.length cap, U want] w (LastPost w (Cr.four (Cr.lastW l want))) := by
  have hsg : IntKind.u32.signed = false := rfl
  have hmx : IntKind.u32.max = 4294967295 := by decide
  obtain ⟨x, hx⟩ : ∃ x, x = Cr.mx ^^^ want := ⟨_, rfl⟩
  have hxl : x < 4294967296 := by rw [hx]; exact Cr.mx_lt hw
  have h1 : bits .xor .u32 4294967295 (want : Int) = (x : Int) := by rw [hx]; exact u32_xor_nat 4294967295 want (by decide) hw
  have HX := Lib.hid hx
  clear hx
  obtain ⟨s, hs⟩ : ∃ s, s = Cr.sum l := ⟨_, rfl⟩
  have hsl : s < 4294967296 := by rw [hs]; exact Cr.sum_lt l
  obtain ⟨y, hy⟩ : ∃ y, y = Cr.mx ^^^ s := ⟨_, rfl⟩
  have h2 : bits .xor .u32 4294967295 (s : Int) = (y : Int) := by rw [hy]; exact u32_xor_nat 4294967295 s (by decide) hsl
  have hyl : y < 4294967296 := by rw [hy]; exact Cr.mx_lt hsl
  have HY := Lib.hid hy
  clear hy
  obtain ⟨z, hz⟩ : ∃ z, z = Cr.ahs 32 x := ⟨_, rfl⟩
  have hzl : z < 4294967296 := by rw [hz]; exact Cr.ahs_lt 32 hxl
  obtain ⟨v, hv⟩ : ∃ v, v = z ^^^ y := ⟨_, rfl⟩
  have h3 : bits .xor .u32 (z : Int) (y : Int) = (v : Int) := by rw [hv]; exact u32_xor_nat z y hzl hyl
  have HV : Hid (v = Cr.lastW l want) := Lib.hid (by rw [hv, hz, HX.out, HY.out, hs]; rfl)
  have HS := Lib.hid hs
  have HZ := Lib.hid hz
  clear hs hz hv
  have h4 := to_u8 v
  have h5 : IntKind.u8.wrap ((v : Int) / 256) = ((UInt8.ofNat (v / 256)).toNat : Int) := to_u8 (v / 256)
  have h6 : IntKind.u8.wrap ((v : Int) / 65536) = ((UInt8.ofNat (v / 65536)).toNat : Int) := to_u8 (v / 65536)
  have h7 : IntKind.u8.wrap ((v : Int) / 16777216) = ((UInt8.ofNat (v / 16777216)).toNat : Int) := to_u8 (v / 16777216)
  rw [← HV.out]
  unfold Cr.four
  obtain ⟨c0, hc0⟩ : ∃ c, c = UInt8.ofNat v := ⟨_, rfl⟩
  obtain ⟨c1, hc1⟩ : ∃ c, c = UInt8.ofNat (v / 256) := ⟨_, rfl⟩
  obtain ⟨c2, hc2⟩ : ∃ c, c = UInt8.ofNat (v / 65536) := ⟨_, rfl⟩
  obtain ⟨c3, hc3⟩ : ∃ c, c = UInt8.ofNat (v / 16777216) := ⟨_, rfl⟩
  rw [← hc0] at h4
  rw [← hc1] at h5
  rw [← hc2] at h6
  rw [← hc3] at h7
  rw [← hc0, ← hc1, ← hc2, ← hc3]
  clear hc0 hc1 hc2 hc3
  go_enter Tryd.func15, Tryd.ntmps15
  go_wp2_with (first
    | (go_at_call 18; refine (ahead_any _ _ hxl).mono ?_; rintro e w' ⟨rfl, rfl⟩; rw [← HZ.out])
    | (go_at_call 10; refine (of_any _ _ _ _ hH hl hb).mono ?_; rintro e w' ⟨rfl, rfl⟩; rw [← HS.out]))
  go_ret
  exact ⟨rfl, rfl⟩

def AwakePost (w : World) (e : Ending) (w' : World) : Prop := e = .returned (.bool true) ∧ Below w.heap.size w w'
theorem of_ex (l : List UInt8) (n cap v : Nat) (A : Option Addr) (w : World) (hH : Hs w) (hn : l.length = n) (hm : n ≤ 9223372036854775807) (hb : BC w A l) (hv : Cr.sum l = v) :
    Calls Tryd.prog 10 #[.slice A n cap] w fun e w' => e = .returned (U v) ∧ w = w' := by
  subst hn hv
  exact of_any A l cap w hH hm hb
theorem bc_new (w : World) (l : List UInt8) (cs : Array Value) (t : TypeId) (fr : Nat × Nat) (n : Nat) (hn : n = w.heap.size) (h : cs = (l.map B).toArray) : BC (w.alloc (.cells cs t fr)) (some ⟨n, 0, none⟩) l := fun _ =>
  ⟨_, 0, rfl, fun k hk => by rw [h, hn, Nat.zero_add, World.cell?_alloc_mark]; simp [hk]⟩
theorem Hs.keep {w w' : World} (h : Hs w) (hc : ∀ p : Addr, p.block < w.heap.size → w'.cell? p = w.cell? p) : Hs w' := fun j v hv => by
  have h1 := h j v hv
  rw [hc]
  · exact h1
  · exact World.block_lt_of_cell? w _ h1
theorem Hs.below {w w' : World} {b : Nat} (h : Hs w) (hb : Below b w w') (h0 : 0 < b) : Hs w' := fun j v hv => by
  rw [hb.cell (p := ⟨0, 0 + j, none⟩) h0]; exact h j v hv
theorem Hs.alloc {w : World} (h : Hs w) (o : Obj) : Hs (w.alloc o) := h.keep fun p hp => World.cell?_alloc_lt w o p hp
theorem Hs.pos {w : World} (h : Hs w) : 0 < w.heap.size := by
  have := h.cell (k := 0) (by omega)
  exact World.block_lt_of_cell? w _ this
theorem ex1 : Cr.sum [49, 50, 51, 52, 53, 54, 55, 56, 57] = 3808858755 := by decide +kernel
theorem ex2 : Cr.sum [0, 0, 0, 0] = 1214729159 := by decide +kernel
theorem ex3 : Cr.sum (List.replicate 32 0) = 2324772522 := by decide +kernel

theorem Tryd.infoByte : (Tryd.prog.info? 5).map (fun i => (i.zero, i.size, i.bytes)) = some (some (.int .u8 0), 1, 1) := by kernel_rfl
theorem run_make32 (w : World) : (Instr.makeSlice 23 (.int .i64 32) (.int .i64 32)).run Tryd.prog w = .ok (.slice (some ⟨w.heap.size, 0, none⟩) 32 32) (w.alloc (.cells ((List.replicate 32 (0 : UInt8)).map B).toArray 5)) := by
  obtain ⟨i0, hi0, hz0, hz1, hz2⟩ := info_parts Tryd.infoByte
  rw [run_make w 23 5 i0 (.int .u8 0) Tryd.underlying23 hi0 hz0 .i64 .i64 32 32 (by decide) (by decide) (by rw [hz2]; decide) (by decide), hz1]
  have e : madeCells (Value.int IntKind.u8 0).cells (Int.toNat 32 * 1) = ((List.replicate 32 (0 : UInt8)).map B).toArray := by kernel_rfl
  rw [e]
  rfl

set_option maxHeartbeats 400000 in
theorem awake_any (w : World) (hH : Hs w) : Calls Tryd.prog 9 #[] w (AwakePost w) := by
  go_enter Tryd.func9, Tryd.ntmps9
  go_wp2_with fail
  rw [Lib.run_convert_bytes_const w 23 5 _ 9 9 Tryd.underlying23 Tryd.underlying5]
  simp only [Result.andThen]
  rw [Oper.upon_value]
  go_wp2_with fail
  refine (of_ex [49, 50, 51, 52, 53, 54, 55, 56, 57] 9 9 _ _ _ (hH.alloc _) rfl (by decide) (bc_new w _ _ _ _ _ rfl rfl) ex1).mono ?_
  rintro e w' ⟨rfl, rfl⟩
  go_wp2_with fail
  refine (of_ex [0, 0, 0, 0] 4 4 _ _ _ ((hH.alloc _).alloc _) rfl (by decide) (bc_new _ _ _ _ _ _ (by simp) rfl) ex2).mono ?_
  rintro e w' ⟨rfl, rfl⟩
  go_wp2_with fail
  rw [run_make32]
  simp only [Result.andThen]
  rw [Oper.upon_value]
  go_wp2_with fail
  refine (of_ex (List.replicate 32 0) 32 32 _ _ _ (((hH.alloc _).alloc _).alloc _) rfl (by decide) (bc_new _ _ _ _ _ _ (by simp) rfl) ex3).mono ?_
  rintro e w' ⟨rfl, rfl⟩
  go_wp2
  go_ret
  exact ⟨rfl, (((Below.refl _ _).alloc (Nat.le_refl _) _).alloc (by simp) _).alloc (by simp; omega) _⟩
end Go.Proofs.YtlfdgmiiijjbhaaDoor
