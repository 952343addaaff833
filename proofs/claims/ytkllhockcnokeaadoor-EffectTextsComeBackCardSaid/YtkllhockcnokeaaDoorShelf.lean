/- The library's functions that this program calls, by the library's own contracts, at this program's numbers: math/bits.Mul64, Add64, Sub64 and sort.Search. -/
import Derived.Test.YtkllhockcnokeaaDoorRows
import Derived.Test.YtkllhockcnokeaaDoorGr
import Derived.Shelf.Bits.Mul64
import Derived.Shelf.Spec.BitsCarry
import Derived.Shelf.SlSorted.Search
namespace Go.Proofs.YtkllhockcnokeaaDoor
open Go.RowKit Go.Lib Go.Sort Go.Shelf
def mulR : Go.Shelf.Ren := ⟨fun | 264 => 74 | n => n, fun | 53 => 59 | 46 => 96 | n => n, fun n => n⟩
theorem mulL : Lays.n264 Tryd.prog mulR := { mixed := by kernel_rfl, f264 := Tryd.func74.trans (congrArg some (by kernel_rfl)), t53 := Tryd.underlying59, a53 := Tryd.isAgg59, z53 := Tryd.sizeOf59, v53 := Tryd.zeroValue59, t46 := Tryd.underlying96, a46 := Tryd.isAgg96, z46 := Tryd.sizeOf96, v46 := Tryd.zeroValue96 }
def addR : Go.Shelf.Ren := ⟨fun | 25 => 75 | n => n, fun | 22 => 59 | n => n, fun n => n⟩
theorem addL : Lays7.n25 Tryd.prog addR := { mixed := by kernel_rfl, f25 := Tryd.func75.trans (congrArg some (by kernel_rfl)), t22 := Tryd.underlying59, a22 := Tryd.isAgg59, z22 := Tryd.sizeOf59, v22 := Tryd.zeroValue59, i22 := by kernel_rfl }
def searchR : Go.Shelf.Ren := ⟨fun | 16 => 61 | n => n, fun | 3 => 3 | 4 => 4 | 35 => 43 | 38 => 96 | n => n, fun n => n⟩
theorem searchL : SlLaysO.n16 Tryd.prog searchR := { mixed := by kernel_rfl, f16 := Tryd.func61.trans (congrArg some (by kernel_rfl)), t3 := Tryd.underlying3, a3 := Tryd.isAgg3, z3 := Tryd.sizeOf3, v3 := Tryd.zeroValue3, t4 := Tryd.underlying4, a4 := Tryd.isAgg4, z4 := Tryd.sizeOf4, v4 := Tryd.zeroValue4, t35 := Tryd.underlying43, a35 := Tryd.isAgg43, z35 := Tryd.sizeOf43, v35 := Tryd.zeroValue43, t38 := Tryd.underlying96, a38 := Tryd.isAgg96, z38 := Tryd.sizeOf96, v38 := Tryd.zeroValue96 }

theorem mul64 (x y : Nat) (hx : x < 18446744073709551616) (hy : y < 18446744073709551616) (w : World) :
    Calls Tryd.prog 74 #[.int .u64 x, .int .u64 y] w fun e w' => e = .returned (.tuple #[.int .u64 ((x * y / 18446744073709551616 : Nat) : Int), .int .u64 ((x * y % 18446744073709551616 : Nat) : Int)]) ∧ w' = w := Any.bits_Mul64 mulL x y hx hy w
theorem add64 (x y c : Nat) (hc : c ≤ 1) (w : World) :
    (callFunc 75 #[.int .u64 x, .int .u64 y, .int .u64 c]).run Tryd.prog w =
      .ok (.value (.tuple #[.int .u64 (((x + y + c) % 18446744073709551616 : Nat) : Int), .int .u64 (((x + y + c) / 18446744073709551616 : Nat) : Int)])) w := Any7.bits_Add64 addL x y c hc w
theorem search (g : Nat) (cb : Array Value) (n : Nat) (p : Nat → Bool) (w : World) (eg : ∀ args w, (callFunc g args).run Tryd.prog w = .ok (.enter g args) w) (hsz : n < 4611686018427387904)
    (hf : ∀ (w1 : World) (i : Nat), Gr w w1 → i < n → Calls Tryd.prog g (#[.int .i64 i] ++ cb) w1 fun e w' => e = .returned (.bool (p i)) ∧ Gr w1 w')
    (hmono : ∀ a b, a ≤ b → b < n → p a = true → p b = true) :
    Calls Tryd.prog 61 #[.int .i64 n, .func (.func g) #[] cb] w fun e w' => e = .returned (.int .i64 ((List.range n).countP (fun i => !p i) : Nat)) ∧ Gr w w' :=
  (Any.sort_Search searchL g cb n p w eg hsz (fun m os i hi => (hf _ i (((Gr.refl w).drewN m).grown os) hi).mono fun _ _ ⟨he, hg⟩ => ⟨he, hg.out⟩) hmono).mono
    fun _ _ ⟨he, hw⟩ => ⟨he, Gr.of_grow hw⟩
/-- What the search counts: the first place at which it is true. -/
theorem count_to (p : Nat → Bool) (n k : Nat) (hk : k ≤ n) (h1 : ∀ t, t < k → p t = false) (h2 : ∀ t, k ≤ t → t < n → p t = true) : (List.range n).countP (fun i => !p i) = k := by
  have hr : ∀ t, t < n → (List.range n)[t]! = t := fun t ht => by rw [getElem!_pos _ t (by simpa using ht)]; simp
  refine Lib.countP_boundary _ (List.range n) k (by simpa using hk) (fun t ht => ?_) (fun t h3 h4 => ?_)
  · rw [hr t (by omega), h1 t ht]; rfl
  · rw [hr t (by simpa using h4), h2 t h3 (by simpa using h4)]; rfl
end Go.Proofs.YtkllhockcnokeaaDoor
