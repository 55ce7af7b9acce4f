/- A sheet as a list of cells; the zero of its type. -/
import Derived.Test.YtdimkeknjhdjfabTl17
import Derived.Test.YtdimkeknjhdjfabAp10
namespace Go.Proofs.Ytdimkeknjhdjfab
open Go.RowKit
set_option linter.unusedVariables false
set_option linter.unusedSimpArgs false

def shL (made : Bool) (held : Value) (done st sema : Int) (pix : List Value) (asked : Int) : List Value :=
  .bool made :: held :: .int .u32 done :: .int .i32 st :: .int .u32 sema :: (pix ++ [.int .i64 asked])
def isZ : Value → Bool
  | .int .u8 n => n == 0
  | _ => false
theorem isZ_eq (v : Value) (h : isZ v = true) : v = .int .u8 0 := by
  unfold isZ at h
  split at h
  · rename_i n; have : n = 0 := by simpa using h
    rw [this]
  · cases h
def pix0 : List Value := List.replicate 24576 (.int .u8 0)
theorem pix0_len : pix0.length = 24576 := List.length_replicate
theorem shz_a : ((Try.t50.zero.getD undef).cells.toList.take 5) = [.bool false, .slice none 0 0, .int .u32 0, .int .i32 0, .int .u32 0] := by kernel_rfl
theorem shz_b : (((Try.t50.zero.getD undef).cells.toList.drop 5).take 24576).all isZ = true := by kernel_rfl
theorem shz_c : ((Try.t50.zero.getD undef).cells.toList.drop 24581) = [.int .i64 0] := by kernel_rfl
theorem shz_d : ((Try.t50.zero.getD undef).cells.toList.length == 24582) = true := by kernel_rfl
theorem list3 {α : Type} (l : List α) (a b : Nat) : l = l.take a ++ ((l.drop a).take b ++ l.drop (a + b)) := by
  rw [← List.drop_drop, List.take_append_drop, List.take_append_drop]
theorem shz : (Try.t50.zero.getD undef).cells.toList = shL false (.slice none 0 0) 0 0 0 pix0 0 := by
  have l := list3 (Try.t50.zero.getD undef).cells.toList 5 24576
  rw [shz_a, show 5 + 24576 = 24581 from rfl, shz_c] at l
  have e : (((Try.t50.zero.getD undef).cells.toList.drop 5).take 24576) = pix0 := by
    refine List.eq_replicate_iff.2 ⟨?_, fun v hv => isZ_eq v (List.all_eq_true.1 shz_b v hv)⟩
    have := shz_d
    rw [List.length_take, List.length_drop, beq_iff_eq.1 shz_d]; omega
  rw [e] at l
  exact l
theorem shz_agg : ∃ cs, Try.t50.zero = some (.agg cs) := ⟨_, rfl⟩
theorem zero17 (w : World) : (zeroValue 50).run Try.prog w = .ok (.agg (shL false (.slice none 0 0) 0 0 0 pix0 0).toArray) w := by
  obtain ⟨cs, hc⟩ := shz_agg
  have z := shz
  rw [hc] at z
  have z2 : cs = (shL false (.slice none 0 0) 0 0 0 pix0 0).toArray := by rw [← z]; rfl
  unfold zeroValue
  simp only [Sem.run_bind, Try.typeInfo50, Result.andThen_ok, hc, z2]
  rfl
theorem shL_len {m : Bool} {h : Value} {d s e : Int} {p : List Value} {n : Int} (hp : p.length = 24576) : (shL m h d s e p n).length = 24582 := by simp [shL, hp]
theorem shL_pix {m : Bool} {h : Value} {d s e : Int} {p : List Value} {n : Int} (hp : p.length = 24576) (i : Nat) (hi : i < 24576) : (shL m h d s e p n)[5 + i]? = p[i]? := by
  rw [Nat.add_comm]
  show (p ++ [Value.int .i64 n])[i]? = p[i]?
  rw [List.getElem?_append_left (by omega)]
theorem shL_ask {m : Bool} {h : Value} {d s e : Int} {p : List Value} {n : Int} (hp : p.length = 24576) : (shL m h d s e p n)[24581]? = some (.int .i64 n) := by
  show (p ++ [Value.int .i64 n])[24576]? = _
  rw [List.getElem?_append_right (by omega), hp]
  rfl
theorem shL_setA {m : Bool} {h : Value} {d s e : Int} {p : List Value} {n : Int} (hp : p.length = 24576) (k : Int) : (shL m h d s e p n).set 24581 (.int .i64 k) = shL m h d s e p k := by
  show _ :: _ :: _ :: _ :: _ :: ((p ++ [Value.int .i64 n]).set 24576 _) = _
  rw [List.set_append_right _ _ (by omega), hp]
  rfl
theorem shL_put {m : Bool} {h : Value} {d s e : Int} {p : List Value} {n : Int} (hp : p.length = 24576) (k : Nat) (vs : List Value) (hk : k + vs.length ≤ 24576) :
    (shL m h d s e p n).take (5 + k) ++ vs ++ (shL m h d s e p n).drop (5 + k + vs.length) = shL m h d s e (p.take k ++ vs ++ p.drop (k + vs.length)) n := by
  rw [Nat.add_comm 5 k, show k + 5 + vs.length = (k + vs.length) + 5 by omega]
  show _ :: _ :: _ :: _ :: _ :: ((p ++ [Value.int .i64 n]).take k) ++ vs ++ ((p ++ [Value.int .i64 n]).drop (k + vs.length)) = _
  rw [List.take_append_of_le_length (by omega), List.drop_append_of_le_length (by omega)]
  simp [shL]
theorem blk_setc {w : World} {b : Nat} {t : TypeId} {cs : List Value} (h : Blk w b t cs) (o : Nat) (v : Value) : Blk (w.setCell ⟨b, o, none⟩ v) b t (cs.set o v) := by
  have := heap_setCell_same w b o cs.toArray t v h
  unfold Blk
  rw [this]
  simp
end Go.Proofs.Ytdimkeknjhdjfab
