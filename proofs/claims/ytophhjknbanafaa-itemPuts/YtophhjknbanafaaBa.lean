/- Rows of bytes: how they lie in memory; append onto a row of the call's own; bytes as a text and back. -/
import Derived.Test.YtophhjknbanafaaRows
import Derived.Test.YtophhjknbanafaaIa
import Derived.WalkKit
import Derived.WalkSpells
import Derived.WalkLawsBesides
import Derived.BigQuiet
import Derived.Deep.QuietTactic
import Derived.Lib.Hide
import Derived.Maps.AppendAt
import Derived.Deep.RegionLaw
import Derived.Deep.RegionHeld3
import Derived.Lib.SliceRun
import Derived.Laws.IdiomStrings
import Derived.Lib.ConvBytes
namespace Go.Proofs.Ytophhjknbanafaa
open Go.RowKit

def bytesV (bs : List UInt8) : List Value := bs.map fun x => .int .u8 (x.toNat : Int)
theorem bytesV_length (bs : List UInt8) : (bytesV bs).length = bs.length := by simp [bytesV]
theorem bytesV_append (a b : List UInt8) : bytesV (a ++ b) = bytesV a ++ bytesV b := by simp [bytesV]

/-- In w the slice (A, n) holds the bytes bs, in the block g. -/
def BytesAt (w : World) (g : Nat) (A : Option Addr) (n : Nat) (bs : List UInt8) : Prop :=
  bs.length = n ∧ (0 < n → ∃ off, A = some ⟨g, off, none⟩ ∧ ∀ k, k < n → w.cell? ⟨g, off + k, none⟩ = some (.int .u8 ((bs.getD k 0).toNat : Int)))

theorem BytesAt.nil (w : World) (g : Nat) (A : Option Addr) : BytesAt w g A 0 [] := ⟨rfl, fun h => absurd h (by omega)⟩
theorem BytesAt.hold {w w' : World} {g : Nat} {A : Option Addr} {n : Nat} {bs : List UInt8} (h : BytesAt w g A n bs) (hk : w'.heap[g]? = w.heap[g]?) : BytesAt w' g A n bs :=
  ⟨h.1, fun hn => by
    obtain ⟨off, e, hc⟩ := h.2 hn
    exact ⟨off, e, fun k hk' => (World.cell?_of_block (a := ⟨g, off + k, none⟩) hk).trans (hc k hk')⟩⟩
theorem BytesAt.lt {w : World} {g : Nat} {A : Option Addr} {n : Nat} {bs : List UInt8} (h : BytesAt w g A n bs) (hn : 0 < n) : g < w.heap.size := by
  obtain ⟨off, e, hc⟩ := h.2 hn
  exact World.block_lt_of_cell? w _ (hc 0 hn)
theorem BytesAt.keep {w w' : World} {g : Nat} {A : Option Addr} {n : Nat} {bs : List UInt8} (h : BytesAt w g A n bs) (hb : Below w.heap.size w w') : BytesAt w' g A n bs := by
  rcases Nat.eq_zero_or_pos n with rfl | hn
  · exact ⟨h.1, fun h => absurd h (by omega)⟩
  · exact h.hold (hb.block g (h.lt hn))
theorem BytesAt.grown {w w' : World} {g : Nat} {A : Option Addr} {n : Nat} {bs : List UInt8} (h : BytesAt w g A n bs) {row : Option Nat} (hg : w.grownBy w' row) (hr : 0 < n → row ≠ some g) : BytesAt w' g A n bs := by
  rcases Nat.eq_zero_or_pos n with rfl | hn
  · exact ⟨h.1, fun h => absurd h (by omega)⟩
  · exact h.hold (hg.block g (h.lt hn) (fun e => hr hn e.symm))
/-- What is behind the first k. -/
theorem BytesAt.drop {w : World} {g off n : Nat} {bs : List UInt8} (h : BytesAt w g (some ⟨g, off, none⟩) n bs) (k : Nat) (hk : k ≤ n) : BytesAt w g (some ⟨g, off + k, none⟩) (n - k) (bs.drop k) := by
  refine ⟨by rw [List.length_drop, h.1], fun hn => ⟨off + k, rfl, fun j hj => ?_⟩⟩
  obtain ⟨off', e, hc⟩ := h.2 (by omega)
  injection e with e
  injection e with e1 e2
  subst e2
  have := hc (k + j) (by omega)
  rw [Nat.add_assoc, this]
  simp [List.getD_eq_getElem?_getD, List.getElem?_drop]
theorem BytesAt.take {w : World} {g : Nat} {A : Option Addr} {n : Nat} {bs : List UInt8} (h : BytesAt w g A n bs) (k : Nat) (hk : k ≤ n) : BytesAt w g A k (bs.take k) := by
  refine ⟨by rw [List.length_take, h.1]; omega, fun hn => ?_⟩
  obtain ⟨off, e, hc⟩ := h.2 (by omega)
  refine ⟨off, e, fun j hj => ?_⟩
  rw [hc j (by omega)]
  simp [List.getD_eq_getElem?_getD, hj]

theorem addr_add (b o j : Nat) : (⟨b, o, none⟩ : Addr).add j = ⟨b, o + j, none⟩ := by unfold Addr.add; split <;> simp_all
theorem bytes_cell {w : World} {g : Nat} {ad : Addr} {m : Nat} {ys : List UInt8} (h : BytesAt w g (some ad) m ys) : ∀ j u, (bytesV ys)[j]? = some u → w.cell? (ad.add j) = some u := by
  intro j u hu
  unfold bytesV at hu
  rw [List.getElem?_map] at hu
  rcases Nat.lt_or_ge j ys.length with hj | hj
  · obtain ⟨off, e, hc⟩ := h.2 (by have := h.1; omega)
    injection e with e
    subst e
    have h1 := hc j (by have := h.1; omega)
    rw [List.getElem?_eq_getElem hj] at hu
    simp only [Option.map_some, Option.some.injEq] at hu
    subst hu
    rw [addr_add]
    simpa [List.getD_eq_getElem?_getD, List.getElem?_eq_getElem hj] using h1
  · rw [List.getElem?_eq_none hj] at hu
    simp at hu

theorem own_form {w : World} {B : Nat} {e : TypeId} {v : Value} {n : Nat} {xs : List Value} (h : w.ownsRow B e 1 v n xs) : ∃ A c, v = .slice A n c := by
  rcases h.2 with ⟨rfl, rfl⟩ | ⟨g, cap, _, rfl, _⟩
  · exact ⟨none, 0, rfl⟩
  · exact ⟨_, cap, rfl⟩
/-- A row of the call's own holds its bytes. -/
theorem own_bytes {w : World} {B : Nat} {e : TypeId} {A : Option Addr} {n c : Nat} {bs : List UInt8} (h : w.ownsRow B e 1 (.slice A n c) n (bytesV bs)) : ∃ g, BytesAt w g A n bs ∧ B ≤ max B g ∧ (0 < n → B ≤ g ∧ g < w.heap.size) ∧ n ≤ c := by
  have hl : bs.length = n := by have := h.1; simpa [bytesV] using this
  have hh := h
  rcases h.2 with ⟨e, rfl⟩ | ⟨g, cap, cur, e, hB, hg, hnc, _, hs, ht⟩
  · injection e with e1 e2 e3
    exact ⟨0, ⟨hl, fun h => absurd h (by omega)⟩, by omega, fun h => absurd h (by omega), by omega⟩
  · injection e with e1 e2 e3
    subst e1 e3
    refine ⟨g, ⟨hl, fun hn => ⟨0, rfl, fun k hk => ?_⟩⟩, by omega, fun _ => ⟨hB, (hh.lt g rfl).2⟩, hnc⟩
    rw [Nat.zero_add, hh.cellAt k (by omega)]
    simp [bytesV, List.getD_eq_getElem?_getD, List.getElem?_eq_getElem (show k < bs.length by omega)]
theorem own_below {w w' : World} {B : Nat} {e : TypeId} {v : Value} {n : Nat} {xs : List Value} (h : w.ownsRow B e 1 v n xs) (hb : Below w.heap.size w w') : w'.ownsRow B e 1 v n xs :=
  h.kept (row := none) ⟨hb.os, hb.tape, hb.output, hb.size, fun k hk _ => hb.block k hk⟩ (by cases v.ownBlock <;> simp)
theorem own_base {w : World} {B B' : Nat} {e : TypeId} {v : Value} {n : Nat} {xs : List Value} (h : w.ownsRow B e 1 v n xs) (hB : B' ≤ B) : w.ownsRow B' e 1 v n xs := by
  refine ⟨h.1, ?_⟩
  rcases h.2 with h2 | ⟨g, cap, cur, e, hg, r⟩
  · exact .inl h2
  · exact .inr ⟨g, cap, cur, e, by omega, r⟩

theorem Try.infoB : (Try.prog.info? 5).map (fun i => (i.zero, i.size, i.bytes)) = some (some (.int .u8 0), 1, 1) := by kernel_rfl

theorem run_append_bytes {ty : TypeId} {w : World} {B g : Nat} {v : Value} {n : Nat} {zs : List UInt8} (hown : w.ownsRow B 5 1 v n (bytesV zs)) {A : Option Addr} {m : Nat} {ys : List UInt8} (c : Nat)
    (hr : BytesAt w g A m ys) (hb : n + m ≤ 8796093022208) (hB : B ≤ w.heap.size) :
    ∃ v' w', (Builtin.append_ #[47, 47] ty #[v, .slice A m c]).run Try.prog w = .ok v' w' ∧ w'.ownsRow B 5 1 v' (n + m) (bytesV (zs ++ ys)) ∧ w.grownBy w' v.ownBlock ∧ (v'.ownBlock = v.ownBlock ∨ v'.ownBlock = some w.heap.size) := by
  obtain ⟨i, hi, hz0, hz1, hz2⟩ := info_parts Try.infoB
  rcases A with _ | ad
  · have hm : m = 0 := by
      rcases Nat.eq_zero_or_pos m with h0 | h0
      · exact h0
      · obtain ⟨_, h, _⟩ := hr.2 h0
        cases h
    subst hm
    have hy : ys = [] := List.eq_nil_of_length_eq_zero hr.1
    subst hy
    refine ⟨v, w, ?_, by simpa using hown, World.grownBy.refl w _, .inl rfl⟩
    rcases hown.2 with ⟨rfl, rfl⟩ | ⟨g, cap, cur, rfl, _, _, hnc, _⟩
    · simp [Builtin.append_, run_underlying Try.underlying47, sizeOf, typeInfo, hi, Builtin.lenOf, Builtin.firstCells]
    · simp [Builtin.append_, run_underlying Try.underlying47, sizeOf, typeInfo, hi, Builtin.lenOf, Builtin.firstCells, hnc, storeCells]
  · obtain ⟨v', w', hrun, h2, h3, _, h5⟩ := run_append_own_at (P := Try.prog) w B 47 ty 5 i (.int .u8 0) 1 1 Try.underlying47 hi hz0 hz1 hz2 rfl (by decide) v n _ hown ad m c (bytesV ys) (by simpa [bytesV] using hr.1) (bytes_cell hr)
      (fun u hu => by simp only [bytesV, List.mem_map] at hu; obtain ⟨_, _, rfl⟩ := hu; rfl) (by unfold maxLen; omega) (by omega) hB
    exact ⟨v', w', hrun, by rw [bytesV_append]; exact h2, h3, h5⟩

theorem wp_append_bytes {o : Oper} {a : Act} {K : Act → World → Prop} {Q : Exit → Act → World → Prop} (s x : Operand) (ho : o.op = .call { callee := .builtin .append, args := #[s, x], argTypes := #[47, 47] })
    {w : World} {B g : Nat} {v : Value} {n : Nat} {zs : List UInt8} (hs : a.eval s = v) (hown : w.ownsRow B 5 1 v n (bytesV zs)) {A : Option Addr} {m : Nat} {ys : List UInt8} {c : Nat} (hx : a.eval x = .slice A m c)
    (hr : BytesAt w g A m ys) (hb : n + m ≤ 8796093022208) (hB : B ≤ w.heap.size)
    (h : ∀ A' c' w', w'.ownsRow B 5 1 (.slice A' (n + m) c') (n + m) (bytesV (zs ++ ys)) → w.grownBy w' v.ownBlock → (Value.ownBlock (.slice A' (n + m) c') = v.ownBlock ∨ Value.ownBlock (.slice A' (n + m) c') = some w.heap.size) → K (a.put o.dst (.slice A' (n + m) c')) w') : o.wp Try.prog a w K Q := by
  obtain ⟨v', w', hrun, h2, h3, h4⟩ := run_append_bytes (ty := o.type) hown c hr hb hB
  obtain ⟨A', c', rfl⟩ := own_form h2
  unfold Oper.wp execOp
  simp only [ho, resolve, invoke, builtin, Sem.run_bind, Sem.run_pure, Result.andThen_ok, List.map_toArray, List.map_cons, List.map_nil, hs, hx, hrun]
  exact h A' c' w' h2 h3 h4

theorem wpList_append_bytes {ops : Array Oper} {rest : List Oper} {o : Oper} {a : Act} {Q : Exit → Act → World → Prop} (hgd : o.guard = none) (s x : Operand) (ho : o.op = .call { callee := .builtin .append, args := #[s, x], argTypes := #[47, 47] })
    {w : World} {B g : Nat} {v : Value} {n : Nat} {zs : List UInt8} (hs : a.eval s = v) (hown : w.ownsRow B 5 1 v n (bytesV zs)) {A : Option Addr} {m : Nat} {ys : List UInt8} {c : Nat} (hx : a.eval x = .slice A m c)
    (hr : BytesAt w g A m ys) (hb : n + m ≤ 8796093022208) (hB : B ≤ w.heap.size)
    (h : ∀ A' c' w', w'.ownsRow B 5 1 (.slice A' (n + m) c') (n + m) (bytesV (zs ++ ys)) → w.grownBy w' v.ownBlock → (Value.ownBlock (.slice A' (n + m) c') = v.ownBlock ∨ Value.ownBlock (.slice A' (n + m) c') = some w.heap.size) → wpList Try.prog ops Q rest (a.put o.dst (.slice A' (n + m) c')) w') :
    wpList Try.prog ops Q (o :: rest) a w :=
  wpList_plain hgd fun _ hK => wp_append_bytes s x ho hs hown hx hr hb hB fun A' c' w' h2 h3 h4 => hK _ _ (h A' c' w' h2 h3 h4)

/-- Bytes as a text. -/
theorem run_text {w : World} {g : Nat} {A : Option Addr} {n : Nat} {bs : List UInt8} (c : Nat) (h : BytesAt w g A n bs) : (convert 47 9 (.slice A n c)).run Try.prog w = .ok (.string ⟨bs.toArray⟩) w := by
  have hl := h.1
  subst hl
  rcases A with _ | ad
  · have : bs = [] := by
      rcases Nat.eq_zero_or_pos bs.length with h0 | h0
      · exact List.eq_nil_of_length_eq_zero h0
      · obtain ⟨_, h, _⟩ := h.2 h0; cases h
    subst this
    show (convert 47 9 (.slice none 0 c)).run Try.prog w = _
    rw [run_convert_bytes_string w 47 9 5 none 0 c Try.underlying47 Try.underlying5 Try.underlying9]
    simp [Conv.bytesToString]
    rfl
  · refine run_convert_bytes_back w 47 9 5 ad c bs Try.underlying47 Try.underlying5 Try.underlying9 fun j hj => ?_
    exact bytes_cell h j _ (by simp [bytesV, hj])

/-- A text's bytes, in a row of the call's own. -/
theorem text_row (w : World) (s : ByteArray) : BytesAt (Lib.bytesWorld w 5 s) w.heap.size (some ⟨w.heap.size, 0, none⟩) s.size s.data.toList := by
  refine ⟨by simp, fun _ => ⟨0, rfl, fun k hk => ?_⟩⟩
  rw [Nat.zero_add, Lib.bytesWorld_cell w 5 s k hk]
theorem text_below (w : World) (s : ByteArray) : Below w.heap.size w (Lib.bytesWorld w 5 s) :=
  ⟨rfl, rfl, rfl, by rw [Lib.bytesWorld_size]; omega, fun k hk => Lib.bytesWorld_at_old w 5 s k hk⟩
theorem grown_of_below {w w' : World} (h : Below w.heap.size w w') (row : Option Nat) : w.grownBy w' row := ⟨h.os, h.tape, h.output, h.size, fun k hk _ => h.block k hk⟩

/-- The answer is a row of the call's own that holds the bytes bs; nothing that was there has turned. -/
def OwnBytes (bs : List UInt8) (w : World) (e : Ending) (w' : World) : Prop :=
  ∃ A c, e = .returned (.slice A bs.length c) ∧ w'.ownsRow w.heap.size 5 1 (.slice A bs.length c) bs.length (bytesV bs) ∧ Below w.heap.size w w'
end Go.Proofs.Ytophhjknbanafaa
