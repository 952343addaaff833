/- The library's functions that this program calls, by the library's own contracts, at this program's numbers: math/bits.Mul64, Add64, Sub64 and sort.Search. -/
import Derived.Test.YtdienaigmkaheaaRows
import Derived.Test.YtdienaigmkaheaaGr
import Derived.Shelf.Bits.Mul64
import Derived.Shelf.Spec.BitsCarry
import Derived.Shelf.SlSorted.Search
namespace Go.Proofs.Ytdienaigmkaheaa
open Go.RowKit Go.Lib Go.Sort Go.Shelf
def mulR : Go.Shelf.Ren := ⟨fun | 264 => 56 | n => n, fun | 53 => 38 | 46 => 81 | n => n, fun n => n⟩
theorem mulL : Lays.n264 Try.prog mulR := { mixed := by kernel_rfl, f264 := Try.func56.trans (congrArg some (by kernel_rfl)), t53 := Try.underlying38, a53 := Try.isAgg38, z53 := Try.sizeOf38, v53 := Try.zeroValue38, t46 := Try.underlying81, a46 := Try.isAgg81, z46 := Try.sizeOf81, v46 := Try.zeroValue81 }
def addR : Go.Shelf.Ren := ⟨fun | 25 => 57 | n => n, fun | 22 => 38 | n => n, fun n => n⟩
theorem addL : Lays7.n25 Try.prog addR := { mixed := by kernel_rfl, f25 := Try.func57.trans (congrArg some (by kernel_rfl)), t22 := Try.underlying38, a22 := Try.isAgg38, z22 := Try.sizeOf38, v22 := Try.zeroValue38, i22 := by kernel_rfl }
def subR : Go.Shelf.Ren := ⟨fun | 26 => 78 | n => n, fun | 22 => 38 | n => n, fun n => n⟩
theorem subL : Lays7.n26 Try.prog subR := { mixed := by kernel_rfl, f26 := Try.func78.trans (congrArg some (by kernel_rfl)), t22 := Try.underlying38, a22 := Try.isAgg38, z22 := Try.sizeOf38, v22 := Try.zeroValue38, i22 := by kernel_rfl }
def searchR : Go.Shelf.Ren := ⟨fun | 16 => 36 | n => n, fun | 3 => 3 | 4 => 4 | 35 => 45 | 38 => 81 | n => n, fun n => n⟩
theorem searchL : SlLaysO.n16 Try.prog searchR := { mixed := by kernel_rfl, f16 := Try.func36.trans (congrArg some (by kernel_rfl)), t3 := Try.underlying3, a3 := Try.isAgg3, z3 := Try.sizeOf3, v3 := Try.zeroValue3, t4 := Try.underlying4, a4 := Try.isAgg4, z4 := Try.sizeOf4, v4 := Try.zeroValue4, t35 := Try.underlying45, a35 := Try.isAgg45, z35 := Try.sizeOf45, v35 := Try.zeroValue45, t38 := Try.underlying81, a38 := Try.isAgg81, z38 := Try.sizeOf81, v38 := Try.zeroValue81 }

theorem mul64 (x y : Nat) (hx : x < 18446744073709551616) (hy : y < 18446744073709551616) (w : World) :
    Calls Try.prog 56 #[.int .u64 x, .int .u64 y] w fun e w' => e = .returned (.tuple #[.int .u64 ((x * y / 18446744073709551616 : Nat) : Int), .int .u64 ((x * y % 18446744073709551616 : Nat) : Int)]) ∧ w' = w := Any.bits_Mul64 mulL x y hx hy w
theorem add64 (x y c : Nat) (hc : c ≤ 1) (w : World) :
    (callFunc 57 #[.int .u64 x, .int .u64 y, .int .u64 c]).run Try.prog w =
      .ok (.value (.tuple #[.int .u64 (((x + y + c) % 18446744073709551616 : Nat) : Int), .int .u64 (((x + y + c) / 18446744073709551616 : Nat) : Int)])) w := Any7.bits_Add64 addL x y c hc w
theorem sub64 (x y b : Nat) (hb : b ≤ 1) (w : World) :
    (callFunc 78 #[.int .u64 x, .int .u64 y, .int .u64 b]).run Try.prog w =
      .ok (.value (.tuple #[.int .u64 (((x + 18446744073709551616 - y - b) % 18446744073709551616 : Nat) : Int), .int .u64 ((if x < y + b then 1 else 0 : Nat) : Int)])) w := Any7.bits_Sub64 subL x y b hb w
theorem search (g : Nat) (cb : Array Value) (n : Nat) (p : Nat → Bool) (w : World) (eg : ∀ args w, (callFunc g args).run Try.prog w = .ok (.enter g args) w) (hsz : n < 4611686018427387904)
    (hf : ∀ (w1 : World) (i : Nat), Gr w w1 → i < n → Calls Try.prog g (#[.int .i64 i] ++ cb) w1 fun e w' => e = .returned (.bool (p i)) ∧ Gr w1 w')
    (hmono : ∀ a b, a ≤ b → b < n → p a = true → p b = true) :
    Calls Try.prog 36 #[.int .i64 n, .func (.func g) #[] cb] w fun e w' => e = .returned (.int .i64 ((List.range n).countP (fun i => !p i) : Nat)) ∧ Gr w w' :=
  (Any.sort_Search searchL g cb n p w eg hsz (fun m os i hi => (hf _ i (((Gr.refl w).drewN m).grown os) hi).mono fun _ _ ⟨he, hg⟩ => ⟨he, hg.out⟩) hmono).mono
    fun _ _ ⟨he, hw⟩ => ⟨he, Gr.of_grow hw⟩
/-- What the search counts: the first place at which it is true. -/
theorem count_to (p : Nat → Bool) (n k : Nat) (hk : k ≤ n) (h1 : ∀ t, t < k → p t = false) (h2 : ∀ t, k ≤ t → t < n → p t = true) : (List.range n).countP (fun i => !p i) = k := by
  have hr : ∀ t, t < n → (List.range n)[t]! = t := fun t ht => by rw [getElem!_pos _ t (by simpa using ht)]; simp
  refine Lib.countP_boundary _ (List.range n) k (by simpa using hk) (fun t ht => ?_) (fun t h3 h4 => ?_)
  · rw [hr t (by omega), h1 t ht]; rfl
  · rw [hr t (by simpa using h4), h2 t h3 (by simpa using h4)]; rfl
end Go.Proofs.Ytdienaigmkaheaa
