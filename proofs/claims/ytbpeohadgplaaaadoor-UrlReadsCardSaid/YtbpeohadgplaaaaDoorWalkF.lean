/- What the call Form of package pct does, for any text of at most 2^30 bytes, where the table of digits reads as its text lays it. -/
import Derived.Test.YtbpeohadgplaaaaDoorWalkE
import Derived.Deep.LoopGhost
namespace Go.Proofs.YtbpeohadgplaaaaDoor
set_option maxRecDepth 8000
open Go.RowKit

theorem Tryd.infoPair : (Tryd.prog.info? 51).map (fun i => (i.zero, i.size, i.bytes)) = some (some (.agg #[.string ⟨#[]⟩, .string ⟨#[]⟩]), 2, 32) := by kernel_rfl

def cells2 (l : List Pct.PairL) : List Value := l.flatMap fun q => [.string (S q.1), .string (S q.2)]

/-- The slice value v owns the pairs l. -/
def PRow (base : Nat) (w : World) (v : Value) (l : List Pct.PairL) : Prop := w.ownsRow base 51 2 v l.length (cells2 l)

def FormPost (w : World) (r : Except Nat (List Pct.PairL)) (e : Ending) (w' : World) : Prop :=
  match r with
  | .ok l => ∃ v, e = .returned (.tuple #[v, .int .i64 0]) ∧ PRow w.heap.size w' v l ∧ Below w.heap.size w w'
  | .error n => e = .returned (.tuple #[.slice none 0 0, .int .i64 n]) ∧ Below w.heap.size w w'

def strLen : Value → Nat
  | .string s => s.size
  | _ => 0
def boolN : Value → Nat
  | .bool true => 1
  | _ => 0

def FInv (l : List UInt8) (acc : List Pct.PairL) (r : List UInt8) (m : Bool) : Prop := Pct.form l = Pct.formGo acc (if m = true then Pct.split 38 r else [])

theorem own_below {w w' : World} {base : Nat} {e : TypeId} {size : Nat} {v : Value} {n : Nat} {xs : List Value} (h : w.ownsRow base e size v n xs) (hb : Below w.heap.size w w') : w'.ownsRow base e size v n xs := by
  refine ⟨h.1, ?_⟩
  rcases h.2 with h1 | ⟨g, cap, cur, hv, hbase, hg, hr⟩
  · exact .inl h1
  · refine .inr ⟨g, cap, cur, hv, hbase, ?_, hr⟩
    rw [hb.block g]
    · exact hg
    · rcases Nat.lt_or_ge g w.heap.size with hlt | hge
      · exact hlt
      · rw [Array.getElem?_eq_none hge] at hg; cases hg

theorem PRow.form {base : Nat} {w : World} {v : Value} {l : List Pct.PairL} (h : PRow base w v l) : ∃ A cap, v = .slice A l.length cap := by
  rcases h.2 with ⟨rfl, hn⟩ | ⟨g, cap, _, hv, _⟩
  · exact ⟨none, 0, by rw [hn]⟩
  · exact ⟨_, cap, hv⟩

theorem pair_some (l : List UInt8) (q : Pct.PairL) (w : World) (hd : Digs w) (hl : l.length ≤ 1073741824) (h : Pct.pairOf l = some q) :
    Calls Tryd.prog 88 #[.string (S l)] w fun e w' => e = .returned (.tuple #[.agg #[.string (S q.1), .string (S q.2)], .int .i64 0]) ∧ Below w.heap.size w w' :=
  (pair_any l w hd hl).mono fun e w' ⟨he, hb⟩ => ⟨by rw [he, h]; rfl, hb⟩
theorem pair_none (l : List UInt8) (w : World) (hd : Digs w) (hl : l.length ≤ 1073741824) (h : Pct.pairOf l = none) :
    Calls Tryd.prog 88 #[.string (S l)] w fun e w' => e = .returned (.tuple #[.agg #[.string ⟨#[]⟩, .string ⟨#[]⟩], .int .i64 11]) ∧ Below w.heap.size w w' :=
  (pair_any l w hd hl).mono fun e w' ⟨he, hb⟩ => ⟨by rw [he, h]; rfl, hb⟩

theorem S_empty (a : List UInt8) : (S a).toList.isEmpty = a.isEmpty := by rw [Lib.toList_data]; rfl

section
variable {l : List UInt8} {acc : List Pct.PairL} {r a b : List UInt8} {f : Bool}
theorem FInv.next (h : FInv l acc r true) (hc : Pct.cutAt 38 r = (a, b, f)) : Pct.form l = Pct.formGo acc (a :: if f = true then Pct.split 38 b else []) := by
  unfold FInv at h
  rw [h, if_pos rfl, Pct.split_cut, hc]
end

theorem formPost_ok {w w' : World} {r : Except Nat (List Pct.PairL)} {acc : List Pct.PairL} {v : Value} (h : r = .ok acc) (hrow : PRow w.heap.size w' v acc) (hb : Below w.heap.size w w') :
    FormPost w r (.returned (.tuple #[v, .int .i64 0])) w' := by rw [h]; exact ⟨v, rfl, hrow, hb⟩
theorem formPost_err {w w' : World} {r : Except Nat (List Pct.PairL)} {n : Nat} (h : r = .error n) (hb : Below w.heap.size w w') :
    FormPost w r (.returned (.tuple #[.slice none 0 0, .int .i64 n])) w' := by rw [h]; exact ⟨rfl, hb⟩

theorem new_behind_sets (w2 : World) (p q : Addr) (x y : Value) (o : Obj) : (((w2.setCell p x).setCell q y).alloc o).heap[w2.heap.size]? = some o := by
  have h := heap_alloc_new ((w2.setCell p x).setCell q y) o
  have e : ((w2.setCell p x).setCell q y).heap.size = w2.heap.size := by simp [World.setCell]
  rwa [e] at h

theorem cutAt_len2 (c : UInt8) : ∀ l : List UInt8, (Pct.cutAt c l).1.length + (Pct.cutAt c l).2.1.length + (if (Pct.cutAt c l).2.2 = true then 1 else 0) = l.length
  | [] => by simp [Pct.cutAt]
  | x :: r => by
    by_cases hx : x = c
    · rw [hx, Pct.cutAt_hit]; simp
    · rw [Pct.cutAt_other c x r hx]
      have := cutAt_len2 c r
      simp only [List.length_cons]
      omega
theorem cut_measure {r a b : List UInt8} {f : Bool} {c : UInt8} (h : Pct.cutAt c r = (a, b, f)) : strLen (.string (S b)) + boolN (.bool f) < strLen (.string (S r)) + boolN (.bool true) := by
  have := cutAt_len2 c r
  rw [h] at this
  have e1 : strLen (.string (S b)) = b.length := rfl
  have e2 : strLen (.string (S r)) = r.length := rfl
  rw [e1, e2]
  cases f <;> simp [boolN] at this ⊢ <;> omega
theorem cells2_snoc (l : List Pct.PairL) (q : Pct.PairL) : cells2 (l ++ [q]) = cells2 l ++ [.string (S q.1), .string (S q.2)] := by simp [cells2]
theorem prow_snoc {base : Nat} {w1 : World} {acc : List Pct.PairL} {q : Pct.PairL} {gg cap : Nat}
    (h : w1.ownsRow base 51 2 (.slice (some ⟨gg, 0, none⟩) (acc.length + 1) cap) (acc.length + 1) (cells2 acc ++ [.string (S q.1), .string (S q.2)])) : PRow base w1 (.slice (some ⟨gg, 0, none⟩) (acc ++ [q]).length cap) (acc ++ [q]) := by
  unfold PRow
  rw [List.length_append, cells2_snoc]
  exact h

set_option maxHeartbeats 800000 in
theorem form_any (l : List UInt8) (w : World) (hd : Digs w) (hl : l.length ≤ 1073741824) :
    Calls Tryd.prog 63 #[.string (S l)] w (FormPost w (Pct.form l)) := by
  obtain ⟨i0, hi0, hz0, hz1, hz2⟩ := info_parts Tryd.infoPair
  have h0 := hd.lt
  have h63 : (33 : Nat) ≤ maxLen := by unfold maxLen; omega
  go_enter Tryd.func63, Tryd.ntmps63
  go_wp2
  go_step3
  go_wp2
  go_step3
  go_wp2
  go_loopw [4, 5, 6, 7] (fun v e rest more wr => ∃ (acc : List Pct.PairL) (r : List UInt8) (m : Bool) (A : Option Addr) (cap : Nat), v = .slice A acc.length cap ∧ e = .int .i64 0 ∧ rest = .string (S r) ∧ more = .bool m ∧ PRow w.heap.size wr (.slice A acc.length cap) acc ∧ acc.length ≤ 32 ∧ r.length ≤ 1073741824 ∧ Below w.heap.size w wr ∧ FInv l acc r m) (fun _ _ rest more _ => strLen rest + boolN more)
  case atStart => exact ⟨[], l, true, none, 0, rfl, rfl, rfl, rfl, World.ownsRow_nil _ _ _ _, by simp, hl, Below.refl _ _, rfl⟩
  case round =>
    obtain ⟨acc, r, m, A, cap, rfl, rfl, rfl, rfl, hrow, hal, hrl, hb, hinv⟩ := hrel
    have hbs := hb.size
    cases m with
    | false =>
      go_wp2
      rw [Exit.noGoto_ret]
      go_ret2
      exact formPost_ok hinv hrow hb
    | true =>
      obtain ⟨a, b, f, hcut⟩ : ∃ a b f, Pct.cutAt 38 r = (a, b, f) := ⟨_, _, _, rfl⟩
      have HN := Lib.hid (hinv.next hcut)
      have hlen := cutAt_len 38 r
      rw [hcut] at hlen
      have hla : a.length ≤ 1073741824 := by simp only at hlen; omega
      have hlb : b.length ≤ 1073741824 := by simp only at hlen; omega
      have HC := Lib.hid hcut
      clear hcut hinv hlen
      have he := S_empty a
      have HE := Lib.hid he
      clear he
      by_cases ha : a = []
      · subst ha
        have he : (S ([] : List UInt8)).toList.isEmpty = true := HE.out
        go_wp2_with fail
        refine (strCut_to r 38 [] b f _ (by omega) HC.out).mono ?_
        rintro e w1 ⟨rfl, hb1⟩
        go_wp2
        go_roundw
        case rel => exact ⟨acc, b, f, A, cap, rfl, rfl, rfl, rfl, own_below hrow hb1, hal, hlb, hb.trans (hb1.mono hbs), by have := HN.out; rw [Pct.formGo_empty] at this; exact this⟩
        case measure => exact cut_measure HC.out
      · have he : (S a).toList.isEmpty = false := by rw [HE.out]; cases a with | nil => exact absurd rfl ha | cons _ _ => rfl
        have HA := Lib.hid ha
        clear ha
        by_cases hfull : acc.length = 32
        · have hf' : ((acc.length : Int) == 32) = true := by rw [hfull]; rfl
          have HF := Lib.hid hfull
          clear hfull
          go_wp2_with fail
          refine (strCut_to r 38 a b f _ (by omega) HC.out).mono ?_
          rintro e w1 ⟨rfl, hb1⟩
          go_wp2
          rw [Exit.noGoto_ret]
          go_ret2
          exact formPost_err (HN.out.trans (Pct.formGo_full acc a _ HA.out HF.out)) (hb.trans (hb1.mono hbs))
        · have hf' : ((acc.length : Int) == 32) = false := by simp; omega
          have HF := Lib.hid hfull
          clear hfull
          cases hq : Pct.pairOf a with
          | none =>
            have HQ := Lib.hid hq
            clear hq
            go_wp2_with fail
            refine (strCut_to r 38 a b f _ (by omega) HC.out).mono ?_
            rintro e w1 ⟨rfl, hb1⟩
            have hb1' : Below w.heap.size w w1 := hb.trans (hb1.mono hbs)
            go_wp2_with fail
            refine (pair_none a _ (hd.below (hb1'.alloc hb1'.size _) h0) hla HQ.out).mono ?_
            rintro e w2 ⟨rfl, hb2⟩
            have B2 : Blk2 w2 w1.heap.size ⟨#[]⟩ ⟨#[]⟩ := (Blk2.new w1 ⟨#[]⟩ ⟨#[]⟩).below hb2 (by simp)
            have hb2' : Below w.heap.size w w2 := (hb1'.alloc hb1'.size _).trans (hb2.mono (by have := hb1'.size; simp; omega))
            have c0 := B2.cell0
            have c1 := B2.cell1
            have f0 := B2.frozen 0
            have f1 := B2.frozen 1
            clear hb2 B2
            go_wp2
            rw [Exit.noGoto_ret]
            go_ret2
            exact formPost_err (HN.out.trans (Pct.formGo_bad acc a _ HA.out HF.out HQ.out)) ((hb2'.setCell hb1'.size _).setCell hb1'.size _)
          | some q =>
            have HQ := Lib.hid hq
            clear hq
            go_wp2_with fail
            refine (strCut_to r 38 a b f _ (by omega) HC.out).mono ?_
            rintro e w1 ⟨rfl, hb1⟩
            have hb1' : Below w.heap.size w w1 := hb.trans (hb1.mono hbs)
            go_wp2_with fail
            refine (pair_some a q _ (hd.below (hb1'.alloc hb1'.size _) h0) hla HQ.out).mono ?_
            rintro e w2 ⟨rfl, hb2⟩
            have B2 : Blk2 w2 w1.heap.size ⟨#[]⟩ ⟨#[]⟩ := (Blk2.new w1 ⟨#[]⟩ ⟨#[]⟩).below hb2 (by simp)
            have hb2' : Below w.heap.size w w2 := (hb1'.alloc hb1'.size _).trans (hb2.mono (by have := hb1'.size; simp; omega))
            have hbr : Below wr.heap.size wr w2 := (hb1.alloc hb1.size _).trans (hb2.mono (by have := hb1.size; simp; omega))
            have hbr1 := hb1.size
            have c0 := B2.cell0
            have c1 := B2.cell1
            have f0 := B2.frozen 0
            have f1 := B2.frozen 1
            clear hb2 B2
            have hW : Below wr.heap.size wr (((w2.setCell ⟨w1.heap.size, 0, none⟩ (.string (S q.1))).setCell ⟨w1.heap.size, 1, none⟩ (.string (S q.2))).alloc (.cells #[.string (S q.1), .string (S q.2)] 51)) := ((hbr.setCell (p := ⟨w1.heap.size, 0, none⟩) hbr1 _).setCell (p := ⟨w1.heap.size, 1, none⟩) hbr1 _).alloc (by have := hbr.size; simp; omega) _
            have hW' : Below w.heap.size w (((w2.setCell ⟨w1.heap.size, 0, none⟩ (.string (S q.1))).setCell ⟨w1.heap.size, 1, none⟩ (.string (S q.2))).alloc (.cells #[.string (S q.1), .string (S q.2)] 51)) := hb.trans (hW.mono hbs)
            have hws : w.heap.size ≤ w2.heap.size := hb2'.size
            go_wp2_with (at_builtin; refine wpList_append_lies _ rfl (.tmp 32) (.tmp 34) _ rfl w.heap.size 51 i0 _ 2 32 Tryd.underlying31 hi0 hz0 hz1 hz2 rfl (by omega) (.slice A acc.length cap) acc.length (cells2 acc) rfl (own_below hrow hW) ⟨w2.heap.size, 0, none⟩ 1 1 [.string (S q.1), .string (S q.2)] rfl rfl (World.news_of_block (cs := #[.string (S q.1), .string (S q.2)]) (t := 51) (fr := (0, 0)) (new_behind_sets w2 _ _ _ _ _)) (by simp [Value.oneCell']) (by omega) (by omega) (by omega) (by simp; omega) (w2.heap.size + 1) (by simp) ?_; intro gg cp w3 hown3 hgrow hat hlt3)
            have hb3 : Below w.heap.size w w3 := hW'.grown hgrow hW'.size (fun k hk => (World.ownsRow.lt hrow k hk).1)
            go_wp2
            go_roundw
            case rel => exact ⟨acc ++ [q], b, f, some ⟨gg, 0, none⟩, cp, by simp, rfl, rfl, rfl, prow_snoc hown3, by have := HF.out; simp; omega, hlb, hb3, by have := HN.out; rw [Pct.formGo_pair acc a _ q HA.out HF.out HQ.out] at this; exact this⟩
            case measure => exact cut_measure HC.out
end Go.Proofs.YtbpeohadgplaaaaDoor
