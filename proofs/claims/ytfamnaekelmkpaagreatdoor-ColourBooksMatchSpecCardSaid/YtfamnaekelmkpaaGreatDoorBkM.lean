/- What BookText writes, ReadBook reads: the mathematics. -/
import Derived.Test.YtfamnaekelmkpaaGreatDoorBkT
import Derived.Test.YtfamnaekelmkpaaGreatDoorRdL
namespace Go.Proofs.YtfamnaekelmkpaaGreatDoor
open Go.RowKit Go.Lib Go.Sort

def bkBody (e : Gel) : List UInt8 := decDigits e.n.toNat ++ 32 :: (shC e.r.toNat e.g.toNat e.b.toNat ++ 32 :: e.name.data.toList)
theorem bkLine_body (e : Gel) : bkLine e = bkBody e ++ [10] := by unfold bkLine bkBody; simp
theorem dd_no (u : Nat) (c : UInt8) (h : isDg c = false) : c ∉ decDigits u := fun hm => by
  have := List.all_eq_true.1 (show (decDigits u).all isDg = true from dd_dgs u) c hm
  rw [h] at this; cases this
theorem hxs_mem : ∀ (k n : Nat) (c : UInt8), c ∈ hxs k n → ∃ d, d < 16 ∧ c = hxd d
  | 0, _, _, h => by cases h
  | k + 1, n, c, h => by
    rcases List.mem_append.1 h with h | h
    · exact hxs_mem k _ c h
    · exact ⟨n % 16, Nat.mod_lt _ (by decide), by simpa using h⟩
theorem hxd_no : ∀ d, d < 16 → hxd d ≠ 10 ∧ hxd d ≠ 32 := by decide
theorem shC_no (a b c : Nat) : (10 : UInt8) ∉ shC a b c ∧ (32 : UInt8) ∉ shC a b c := by
  have key : ∀ x ∈ shC a b c, x ≠ 10 ∧ x ≠ 32 := by
    intro x hx
    unfold shC at hx
    split at hx
    all_goals
      rcases List.mem_cons.1 hx with rfl | hx
      · decide
      · rcases List.mem_append.1 hx with hx | hx
        · rcases List.mem_append.1 hx with hx | hx
          · obtain ⟨d, hd, rfl⟩ := hxs_mem _ _ _ hx; exact hxd_no d hd
          · obtain ⟨d, hd, rfl⟩ := hxs_mem _ _ _ hx; exact hxd_no d hd
        · obtain ⟨d, hd, rfl⟩ := hxs_mem _ _ _ hx; exact hxd_no d hd
  exact ⟨fun h => (key _ h).1 rfl, fun h => (key _ h).2 rfl⟩
theorem bkBody_no {e : Gel} (h : GelOk e) : (10 : UInt8) ∉ bkBody e := by
  intro hm
  unfold bkBody at hm
  rcases List.mem_append.1 hm with hm | hm
  · exact dd_no _ 10 (by decide) hm
  · rcases List.mem_cons.1 hm with hm | hm
    · cases hm
    · rcases List.mem_append.1 hm with hm | hm
      · exact (shC_no _ _ _).1 hm
      · rcases List.mem_cons.1 hm with hm | hm
        · cases hm
        · have := (isTtl_len h.2.1).2.2 10 hm
          cases this
theorem jn_split (l : List UInt8) : jn (split1 32 l) = l := by
  obtain ⟨x, t, e⟩ := split1_ne 32 l
  rw [e, jn_tail, join_split e]; rfl
theorem bkBody_split {e : Gel} : split1 32 (bkBody e) = decDigits e.n.toNat :: shC e.r.toNat e.g.toNat e.b.toNat :: split1 32 e.name.data.toList := by
  unfold bkBody
  rw [split_app (dd_no _ 32 (by decide)), split_app (shC_no _ _ _).2]
theorem ln_body {e : Gel} (h : GelOk e) : lnOk (bkBody e) = true ∧ lnGel (bkBody e) = e := by
  obtain ⟨⟨h1, h2⟩, h3, h4⟩ := h
  obtain ⟨hr, hg, hb⟩ := isCol_iff.1 h4
  have e3 := rdC_shC (a := e.r.toNat) (b := e.g.toNat) (c := e.b.toNat) (by omega) (by omega) (by omega)
  obtain ⟨r1, r2⟩ := rd_some e3
  have hn : (split1 32 e.name.data.toList) ≠ [] := by obtain ⟨x, t, e⟩ := split1_ne 32 e.name.data.toList; rw [e]; simp
  constructor
  · unfold lnOk
    rw [bkBody_split]
    simp only
    rw [dd_numOk (by decide) (show e.n.toNat < 10 ^ 9 by omega), r1, jn_split]
    have hne := (isTtl_len h3).2.1
    cases hd : e.name.data.toList with
    | nil => exact absurd hd hne
    | cons _ _ => rfl
  · unfold lnGel
    rw [bkBody_split]
    simp only
    rw [dd_val, r2, jn_split, bs_of]
    obtain ⟨n, name, r, g, b⟩ := e
    simp only at h1 h2 hr hg hb ⊢
    congr 1 <;> omega
theorem bkTxt_cons (e : Gel) (t : List Gel) : bkTxt (e :: t) = bkBody e ++ 10 :: bkTxt t := by
  show bkLine e ++ bkTxt t = _
  rw [bkLine_body, List.append_assoc]; rfl
theorem bkTxt_read : ∀ (L : List Gel) (n : Nat), (∀ e ∈ L, GelOk e) → rdl lnOk n (split1 10 (bkTxt L)) = none ∧ (split1 10 (bkTxt L)).dropLast.map lnGel = L ∧ ∀ l ∈ (split1 10 (bkTxt L)).dropLast, ∃ e ∈ L, l = bkBody e
  | [], n, _ => ⟨rfl, rfl, fun l hl => by cases hl⟩
  | e :: t, n, h => by
    have he := h e List.mem_cons_self
    obtain ⟨h1, h2, h3⟩ := bkTxt_read t (n + 1) (fun x hx => h x (List.mem_cons_of_mem _ hx))
    obtain ⟨l1, l2⟩ := ln_body he
    rw [bkTxt_cons]
    refine ⟨by rw [rdl_cut _ _ (bkBody_no he), l1, if_pos rfl]; exact h1, by rw [gels_cut _ (bkBody_no he), h2, l2], ?_⟩
    intro l hl
    rw [split_app (bkBody_no he)] at hl
    obtain ⟨x, u, eu⟩ := split1_ne 10 (bkTxt t)
    rw [eu] at hl h3
    rw [List.dropLast_cons_of_ne_nil (by simp)] at hl
    rcases List.mem_cons.1 hl with rfl | hl
    · exact ⟨e, List.mem_cons_self, rfl⟩
    · obtain ⟨y, hy, hly⟩ := h3 l hl
      exact ⟨y, List.mem_cons_of_mem _ hy, hly⟩
end Go.Proofs.YtfamnaekelmkpaaGreatDoor
