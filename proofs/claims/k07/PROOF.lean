import PyProof.Rows.All
import Wide.All
import OpenK.AllK
import Wide.FinOn
import HandS.ForExc
import HandS.Comp
import HandS.IsInst
import HandS.Wide
import HandS.Lambda
import HandS.EndTab
import HandS.EndOwn
import HandS.ExcIs
import HandS.CallSlots
import HandS.NoneIn
import KE.KDflt
import PySem.Challenge.RW_pulseshare_k07_streams
set_option Elab.async false
set_option linter.all false
set_option maxRecDepth 100000
set_option maxHeartbeats 2000000
namespace Cm
open PySem PySem.Spec PyProof.Rows L2
/-! ### heaps -/
/-- all that is tracked but p stands as it did -/
def But (p : Addr) (H H' : Hp) : Prop := ∀ b o, H b = some o → b ≠ p → H' b = some o
theorem But.refl (p : Addr) (H : Hp) : But p H H := fun _ _ h _ => h
theorem But.trans {p : Addr} {H H1 H2 : Hp} (a : But p H H1) (b : But p H1 H2) : But p H H2 := fun c o h n => b c o (a c o h n) n
theorem But.of_same {p : Addr} {H H1 : Hp} (a : Same H H1) : But p H H1 := fun c o h _ => a c o h
theorem But.upd {p : Addr} {H : Hp} {o : HO} : But p H (upd H p o) := fun b z e n => by
  rw [upd_ne n]
  exact e
theorem same_upd {H : Hp} {p : Addr} {o : HO} (h : H p = none) : Same H (upd H p o) := fun b x e => by
  rw [upd_ne (ne_of_none e h)]
  exact e
theorem But.free {p : Addr} {H H' : Hp} (e : But p H H') {l : Addr} (n : l ≠ p) (h : H' l = Option.none) : H l = Option.none := by
  cases q : H l with
  | none => rfl
  | some o =>
    rw [e l o q n] at h
    cases h
/-- a list that is read, not the one at p that may be written -/
theorem But.seq {K : PySem.W.Frag} {p : Addr} {H H' : Hp} {a : Addr} {xs : List V} (e : But p H H') (n : a ≠ p) (h : SqL K H a xs) : SqL K H' a xs := by
  rcases h with (h | ⟨o, h⟩) | h
  · exact .inl (.inl (e _ _ h n))
  · exact .inl (.inr ⟨o, e _ _ h n⟩)
  · exact .inr h
theorem int_at {ns : List Int} {i : Nat} {y : V} (hi : (ns.map V.int)[i]? = some y) : ∃ z, ns[i]? = some z ∧ y = V.int z := by
  rw [List.getElem?_map] at hi
  cases e : ns[i]? with
  | none =>
    rw [e] at hi
    cases hi
  | some z =>
    rw [e] at hi
    exact ⟨z, rfl, (Option.some.inj hi).symm⟩
/-! ### the law's drawing state -/
def stV (a : Addr) (c m l : Int) : List V := [.ref a, .int c, .int m, .int l]
/-- b is not the list at a, or that list is of the written part -/
def NA (K : PySem.W.Frag) (a : Addr) (xs : List V) (b : Addr) : Prop := b ≠ a ∨ ∀ H', SqL K H' a xs
theorem NA.of {K : PySem.W.Frag} {H : Hp} {a b : Addr} {xs : List V} (h : SqL K H a xs) (n : H b = none) : NA K a xs b := by
  rcases h with (h | ⟨o, h⟩) | h
  · exact .inl (ne_of_none h n).symm
  · exact .inl (ne_of_none h n).symm
  · exact .inr fun _ => .inr h
theorem NA.seq {K : PySem.W.Frag} {H H' : Hp} {a b : Addr} {xs : List V} (n : NA K a xs b) (h : SqL K H a xs) (e : But b H H') : SqL K H' a xs := by
  rcases n with n | n
  · exact e.seq (fun z => n z.symm) h
  · exact n H'
/-- the script's list, which the state at p is not -/
def Scr (K : PySem.W.Frag) (p : Addr) (H : Hp) (a : Addr) (xs : List V) : Prop := SqL K H a xs ∧ NA K a xs p
theorem Scr.seq {K : PySem.W.Frag} {H : Hp} {p a : Addr} {xs : List V} (h : Scr K p H a xs) : SqL K H a xs := h.1
theorem Scr.same {K : PySem.W.Frag} {H H' : Hp} {p a : Addr} {xs : List V} (h : Scr K p H a xs) (e : Same H H') : Scr K p H' a xs := ⟨e.seq h.1, h.2⟩
theorem Scr.but {K : PySem.W.Frag} {H H' : Hp} {a p : Addr} {xs ys : List V} (h : Scr K p H a xs) (e : But p H H') (_ : H p = some (.lst ys)) : Scr K p H' a xs := ⟨h.2.seq h.1 e, h.2⟩
/-- at p stands the drawing state over the script at a -/
def StAt (K : PySem.W.Frag) (p a : Addr) (ns : List Int) (H : Hp) : Prop :=
  ∃ c m l : Int, H p = some (.lst (stV a c m l)) ∧ 0 ≤ c ∧ 0 ≤ m ∧ m < 2147483647 ∧ 0 ≤ l ∧ Scr K p H a (ns.map V.int)
theorem StAt.same {K : PySem.W.Frag} {p a : Addr} {ns : List Int} {H H' : Hp} (h : StAt K p a ns H) (e : Same H H') : StAt K p a ns H' := by
  obtain ⟨c, m, l, h1, h2, h3, h4, h5, h7⟩ := h
  exact ⟨c, m, l, e _ _ h1, h2, h3, h4, h5, h7.same e⟩
theorem StAt.ne {K : PySem.W.Frag} {p a b : Addr} {ns : List Int} {H : Hp} (h : StAt K p a ns H) (n : H b = none) : p ≠ b := by
  obtain ⟨c, m, l, h1, _⟩ := h
  exact ne_of_none h1 n
theorem StAt.na {K : PySem.W.Frag} {p a b : Addr} {ns : List Int} {H : Hp} (h : StAt K p a ns H) (n : H b = none) : NA K a (ns.map V.int) b := by
  obtain ⟨c, m, l, _, _, _, _, _, h7⟩ := h
  exact .of h7.1 n
/-- another list is written -/
theorem StAt.but {K : PySem.W.Frag} {p a b : Addr} {ns : List Int} {H H' : Hp} (h : StAt K p a ns H) (e : But b H H') (n : b ≠ p) (na : NA K a (ns.map V.int) b) : StAt K p a ns H' := by
  obtain ⟨c, m, l, h1, h2, h3, h4, h5, h7⟩ := h
  exact ⟨c, m, l, e _ _ h1 n.symm, h2, h3, h4, h5, na.seq h7.1 e, h7.2⟩
def spStart (K : PySem.W.Frag) : Sp := fun vs H Q _ => ∃ (a : Addr) (ns : List Int), vs = [.ref a] ∧ SqL K H a (ns.map V.int) ∧
  ∀ H' p, Same H H' → H p = none → StAt K p a ns H' → Q (.ref p) H'
/-- a drawn number, from 0 to many less one -/
def spDrawn (K : PySem.W.Frag) : Sp := fun vs H Q _ => ∃ (p a : Addr) (ns : List Int) (many : Int), vs = [.ref p, .int many] ∧ StAt K p a ns H ∧ 0 < many ∧ many.natAbs < 2 ^ 200 ∧
  ∀ H' v, But p H H' → StAt K p a ns H' → 0 ≤ v → v < many → Q (.int v) H'
/-- two things that are the same: flat ones, or lists or tuples of flat ones -/
inductive Flat : V → Prop where
  | int (i : Int) : Flat (.int i)
  | bl (b : Bool) : Flat (.bl b)
  | non : Flat .non
  | str (x : Str) : Flat (.str x)
inductive Twin (K : PySem.W.Frag) (H : Hp) : V → V → Prop where
  | flat {x : V} (h : Flat x) : Twin K H x x
  | lst {p q : Addr} {xs : List V} (hp : H p = some (.lst xs)) (hq : H q = some (.lst xs)) (hf : ∀ x ∈ xs, Flat x) (hl : xs.length ≤ 1000000) : Twin K H (.ref p) (.ref q)
  | tup {p q : Addr} {xs : List V} (hp : H p = some (.tup xs)) (hq : H q = some (.tup xs)) (hf : ∀ x ∈ xs, Flat x) (hl : xs.length ≤ 1000000) : Twin K H (.ref p) (.ref q)
def spFlat : Sp := fun vs H Q _ => ∃ x : V, vs = [x, x] ∧ Flat x ∧ ∀ H', Same H H' → Q (.bl true) H'
def spSame (K : PySem.W.Frag) : Sp := fun vs H Q _ => ∃ x y : V, vs = [x, y] ∧ Twin K H x y ∧ ∀ H', Same H H' → Q (.bl true) H'
/-! ### numbers -/
theorem mod_lt {a b : Int} (h : 0 < b) : 0 ≤ a % b ∧ a % b < b := ⟨Int.emod_nonneg _ (by omega), Int.emod_lt_of_pos _ h⟩
end Cm
namespace Cm
open PySem PySem.Spec PyProof.Rows L2
/-! ### the even frame's beats -/
/-- whether beat n of the endless row of a share is on -/
def bitE (b k n : Int) : Int := (n + 1) * k / b - n * k / b
theorem bit_step {b k : Int} (hb : 0 < b) (h0 : 0 ≤ k) (hk : k ≤ b) (n : Int) :
    (n * k % b + k < b ∧ bitE b k n = 0 ∧ (n + 1) * k % b = n * k % b + k) ∨ (b ≤ n * k % b + k ∧ bitE b k n = 1 ∧ (n + 1) * k % b = n * k % b + k - b) := by
  have e0 : b * (n * k / b) + n * k % b = n * k := Int.mul_ediv_add_emod _ _
  have l0 : 0 ≤ n * k % b := Int.emod_nonneg _ (by omega)
  have l1 : n * k % b < b := Int.emod_lt_of_pos _ hb
  have e1 : (n + 1) * k = (n * k % b + k) + b * (n * k / b) := by rw [Int.add_mul, Int.one_mul]; omega
  unfold bitE
  rw [e1, Int.add_mul_ediv_left _ _ (by omega : b ≠ 0), Int.add_mul_emod_self_left]
  by_cases c : n * k % b + k < b
  · left
    rw [Int.ediv_eq_zero_of_lt (by omega) c, Int.emod_eq_of_lt (by omega) c]
    exact ⟨c, by omega, rfl⟩
  · right
    have e2 : n * k % b + k = (n * k % b + k - b) + b * 1 := by omega
    have d1 : (n * k % b + k) / b = 1 := by
      rw [e2, Int.add_mul_ediv_left _ _ (by omega : b ≠ 0)]
      have z : (n * k % b + k - b) / b = 0 := Int.ediv_eq_zero_of_lt (by omega) (by omega)
      rw [z]
      rfl
    have d2 : (n * k % b + k) % b = n * k % b + k - b := by
      have z : (n * k % b + k - b + b * 1) % b = n * k % b + k - b := by
        rw [Int.add_mul_emod_self_left]
        exact Int.emod_eq_of_lt (by omega) (by omega)
      rw [← e2] at z
      exact z
    exact ⟨by omega, by omega, d2⟩
theorem bit_01 {b k : Int} (hb : 0 < b) (h0 : 0 ≤ k) (hk : k ≤ b) (n : Int) : bitE b k n = 0 ∨ bitE b k n = 1 := by
  rcases bit_step hb h0 hk n with ⟨_, h, _⟩ | ⟨_, h, _⟩
  · exact .inl h
  · exact .inr h
/-- the even frame of a share by a turn: its first n beats -/
def evenN (b k t : Int) (n : Nat) : List Int := (List.range n).map fun (i : Nat) => bitE b k (t + (i : Int))
def evenL (b k t : Int) : List Int := evenN b k t b.toNat
theorem evenN_len (b k t : Int) (n : Nat) : (evenN b k t n).length = n := by
  unfold evenN
  rw [List.length_map, List.length_range]
theorem evenN_succ (b k t : Int) (n : Nat) : evenN b k t (n + 1) = evenN b k t n ++ [bitE b k (t + (n : Int))] := by
  unfold evenN
  rw [List.range_succ, List.map_append]
  rfl
theorem evenN_sum (b k t : Int) (n : Nat) : (evenN b k t n).sum = (t + (n : Int)) * k / b - t * k / b := by
  induction n with
  | zero =>
    show (0 : Int) = _
    rw [show t + ((0 : Nat) : Int) = t by omega]
    omega
  | succ n ih =>
    rw [evenN_succ, List.sum_append, ih]
    have e : ([bitE b k (t + (n : Int))] : List Int).sum = bitE b k (t + (n : Int)) := by
      show bitE b k (t + (n : Int)) + 0 = _
      omega
    rw [e]
    unfold bitE
    rw [show t + (n : Int) + 1 = t + ((n + 1 : Nat) : Int) by omega]
    omega
theorem evenL_sum {b k t : Int} (hb : 0 < b) : (evenL b k t).sum = k := by
  unfold evenL
  rw [evenN_sum, show ((b.toNat : Nat) : Int) = b by omega, Int.add_mul, Int.add_mul_ediv_left _ _ (by omega : b ≠ 0)]
  omega
theorem evenL_len {b k t : Int} : (evenL b k t).length = b.toNat := evenN_len _ _ _ _
/-! ### promises of the share, the law's own frame, the program's -/
def GoodShare (b k : Int) : Prop := 1 ≤ b ∧ b ≤ 64 ∧ 0 ≤ k ∧ k ≤ b
def spShare (K : PySem.W.Frag) : Sp := fun vs H Q _ => ∃ (p a : Addr) (ns : List Int), vs = [.ref p] ∧ StAt K p a ns H ∧
  ∀ H' t b k, But p H H' → StAt K p a ns H' → H t = none → H' t = some (.tup [.int b, .int k]) → GoodShare b k → Q (.ref t) H'
/-- what makes the list of an even frame -/
def spMake : Sp := fun vs H Q _ => ∃ (b k t : Int), vs = [.int b, .int k, .int t] ∧ GoodShare b k ∧ t.natAbs < 2 ^ 200 ∧
  ∀ H' r, Same H H' → H r = none → H' r = some (.lst ((evenL b k t).map V.int)) → Q (.ref r) H'
def spCheck : Sp := fun vs H Q _ => ∃ (b k : Int), vs = [.int b, .int k] ∧ GoodShare b k ∧ Q .non H
def spAhead : Sp := fun vs H Q _ => ∃ (n b k : Int), vs = [.int n, .int b, .int k] ∧ GoodShare b k ∧ Q (.int (n * k / b)) H
theorem good_div {b k : Int} (h : GoodShare b k) : CDiv 0 b := ⟨by have := h.1; omega, by have := h.2.1; omega⟩
end Cm
namespace Cm
open PySem PySem.Spec PyProof.Rows L2
def spLaw (K : PySem.W.Frag) : Sp := fun vs H Q _ => ∃ (a : Addr) (ns : List Int), vs = [.ref a] ∧ SqL K H a (ns.map V.int) ∧ ∀ H', Q (.bl true) H'
theorem flat_ints (ns : List Int) : ∀ x ∈ ns.map V.int, Flat x := fun x hx => by
  obtain ⟨i, _, rfl⟩ := List.mem_map.mp hx
  exact .int i
theorem StAt.nlst {K : PySem.W.Frag} {p a b : Addr} {ns : List Int} {H : Hp} (h : StAt K p a ns H) (n : H b = none) : b ≠ p := (h.ne n).symm
end Cm
namespace Cm
open PySem PySem.Spec PyProof.Rows L2
/-! ### lists of ints as data -/
def intsD (xs : List Int) : PyData := .list (xs.map PyData.int)
theorem dpall_ints (K : PySem.W.Frag) (H : Hp) : ∀ xs : List Int, DpAll K H (xs.map V.int) (xs.map PyData.int)
  | [] => .nil
  | x :: xs => .cons (.int x) (dpall_ints K H xs)
theorem dp_ints {K : PySem.W.Frag} {H : Hp} {a : Addr} {xs : List Int} (h : SqL K H a (xs.map V.int)) : Dp K H (.ref a) (intsD xs) := .lst h (dpall_ints K H xs)
theorem lay_ints : ∀ xs : List Int, PyData.canLayAll0 (xs.map PyData.int) = true
  | [] => by simp only [List.map_nil, PyData.canLayAll0]
  | x :: xs => by
    rw [List.map_cons, PyData.canLayAll0, PyData.canLay0, lay_ints xs]
    rfl
theorem depth_ints : ∀ xs : List Int, PyData.depthAll (xs.map PyData.int) = 0
  | [] => by simp only [List.map_nil, PyData.depthAll]
  | x :: xs => by
    rw [List.map_cons, PyData.depthAll, PyData.depth, depth_ints xs]
    rfl
theorem shaped_ints (xs : List Int) : SeqAt.shaped (intsD xs) = true := by
  unfold SeqAt.shaped intsD
  rw [PyData.canLay0, lay_ints, PyData.depth, depth_ints]
  decide
theorem eqvall_ints : ∀ xs ys : List Int, PyData.eqvAll (xs.map PyData.int) (ys.map PyData.int) = decide (xs = ys)
  | [], [] => by
    rw [List.map_nil, PyData.eqvAll]
    rfl
  | [], y :: ys => by
    rw [List.map_nil, List.map_cons, PyData.eqvAll]
    rfl
  | x :: xs, [] => by
    rw [List.map_nil, List.map_cons, PyData.eqvAll]
    rfl
  | x :: xs, y :: ys => by
    rw [List.map_cons, List.map_cons, PyData.eqvAll, PyData.eqv, eqvall_ints xs ys]
    by_cases h : x = y
    · subst h
      by_cases h2 : xs = ys
      · subst h2
        simp
      · simp [h2]
    · simp [h]
theorem eqv_ints (xs ys : List Int) : PyData.eqv (intsD xs) (intsD ys) = decide (xs = ys) := by
  unfold intsD
  rw [PyData.eqv, eqvall_ints]
theorem cutV_nat {xs : List V} {i j : Nat} (hij : i ≤ j) (hj : j ≤ xs.length) : cutV xs (some (i : Int)) (some (j : Int)) = (xs.drop i).take (j - i) := by
  unfold cutV
  rw [HT.sIx_nat, HT.sIx_nat, Nat.min_eq_left hj, Nat.min_eq_left (show i ≤ xs.length by omega)]
theorem cut_ints {xs : List Int} {i j : Nat} (hij : i ≤ j) (hj : j ≤ xs.length) : cutV (xs.map V.int) (some (i : Int)) (some (j : Int)) = ((xs.drop i).take (j - i)).map V.int := by
  rw [cutV_nat hij (by rw [List.length_map]; exact hj), List.map_take, List.map_drop]
theorem sum_cut (xs : List Int) (i j : Nat) (hij : i ≤ j) : ((xs.drop i).take (j - i)).sum = (xs.take j).sum - (xs.take i).sum := by
  have e : xs.take j = xs.take i ++ (xs.drop i).take (j - i) := by
    rw [← List.take_add]
    congr 1
    omega
  rw [e, List.sum_append]
  omega
end Cm
namespace Cm
open PySem PySem.Spec PyProof.Rows L2
theorem iteTd {c A B : Prop} [Decidable c] (hc : c) (h : A) : if decide c = true then A else B := by
  rw [decide_eq_true hc]
  exact iteT h
theorem iteFd {c A B : Prop} [Decidable c] (hc : ¬ c) (h : B) : if decide c = true then A else B := by
  rw [decide_eq_false hc]
  exact iteF h
end Cm
namespace Cm
open PySem PySem.Spec PyProof.Rows L2
theorem bitE_round {b k n : Int} (hb : 0 < b) : bitE b k (n + b) = bitE b k n := by
  unfold bitE
  rw [show (n + b + 1) * k = (n + 1) * k + b * k by rw [show n + b + 1 = (n + 1) + b by omega, Int.add_mul], Int.add_mul n b k, Int.add_mul_ediv_left _ _ (by omega : b ≠ 0), Int.add_mul_ediv_left _ _ (by omega : b ≠ 0)]
  omega
end Cm
namespace Cm
open PySem PySem.Spec PyProof.Rows L2
theorem iteNF {c A B : Prop} [Decidable c] (hc : ¬ c) (h : A) : if (!decide c) = true then A else B := by
  rw [decide_eq_false hc]
  exact iteT h
end Cm
namespace Cm
open PySem PySem.Spec PyProof.Rows L2
/-! ### a stream's three numbers -/
def sF (w l t : Int) : List (Str × V) := [("whole", .int w), ("left", .int l), ("told", .int t)]
def SAt (C : Addr) (H : Hp) (x : Addr) (w l t : Int) : Prop := ∃ dx, H x = some (.ins C dx (sF w l t))
theorem lk_here {k : Str} {v : V} {r : List (Str × V)} : List.lookup k ((k, v) :: r) = some v := by
  have e : (k == k) = true := beq_self_eq_true k
  simp only [List.lookup, e]
theorem lk_past {k g : Str} {v : V} {r : List (Str × V)} (h : (k == g) = false) : List.lookup k ((g, v) :: r) = List.lookup k r := by
  simp only [List.lookup, h]
theorem put_here {f : Str} {v x : V} {r : List (Str × V)} : putF f v ((f, x) :: r) = (f, v) :: r := if_pos rfl
theorem put_past {f g : Str} {v x : V} {r : List (Str × V)} (h : ¬ g = f) : putF f v ((g, x) :: r) = (g, x) :: putF f v r := if_neg h
theorem sF_whole (w l t : Int) : (sF w l t).lookup ("whole" : Str) = some (.int w) := lk_here
theorem sF_left (w l t : Int) : (sF w l t).lookup ("left" : Str) = some (.int l) := (lk_past (by decide +kernel)).trans lk_here
theorem sF_told (w l t : Int) : (sF w l t).lookup ("told" : Str) = some (.int t) := (lk_past (by decide +kernel)).trans ((lk_past (by decide +kernel)).trans lk_here)
theorem sF_no (w l t : Int) {m : Str} (h1 : (m == "whole") = false) (h2 : (m == "left") = false) (h3 : (m == "told") = false) : (sF w l t).lookup m = none := (lk_past h1).trans ((lk_past h2).trans ((lk_past h3).trans rfl))
theorem sF_put_left (w l t y : Int) : putF "left" (.int y) (sF w l t) = sF w y t := (put_past (by decide +kernel)).trans (congrArg _ put_here)
theorem sF_put_told (w l t y : Int) : putF "told" (.int y) (sF w l t) = sF w l y := (put_past (by decide +kernel)).trans (congrArg _ ((put_past (by decide +kernel)).trans (congrArg _ put_here)))
theorem sF_new1 (w : Int) : putF "left" (.int 0) (putF "whole" (.int w) []) = ([(("whole" : Str), V.int w), (("left" : Str), V.int 0)] : List (Str × V)) := (put_past (by decide +kernel)).trans rfl
theorem sF_new (w : Int) : putF "told" (.int 0) (putF "left" (.int 0) (putF "whole" (.int w) [])) = sF w 0 0 := by
  rw [sF_new1]
  exact (put_past (by decide +kernel)).trans (congrArg _ ((put_past (by decide +kernel)).trans rfl))
/-- what the top has written of the class of streams -/
structure TxtS (K : PySem.W.Frag) (mg : Str → Option Value) (C : Addr) : Prop where
  cl : Cls K C
  nW : NoAttr K C "whole"
  nL : NoAttr K C "left"
  nT : NoAttr K C "told"
  gC : mg "Stream" = some (.ref C)
def spInit (C : Addr) : Sp := fun vs H Q _ => ∃ (p dx : Addr) (wh : Int), vs = [.ref p, .int wh] ∧ H p = some (.ins C dx []) ∧ 1 ≤ wh ∧ wh ≤ 1000000000000 ∧
  ∀ H' : Hp, SAt C H' p wh 0 0 → (∀ b o, H b = some o → b ≠ p → H' b = some o) → Q .non H'
def spNext (C : Addr) : Sp := fun vs H Q _ => ∃ (p : Addr) (wh l t sh : Int), vs = [.ref p, .int sh] ∧ SAt C H p wh l t ∧ 0 ≤ sh ∧ sh ≤ wh ∧ 0 ≤ l ∧ l < wh ∧
  ∀ H' : Hp, But p H H' → SAt C H' p wh ((l + sh) % wh) (t + (l + sh) / wh) → Q (.int ((l + sh) / wh)) H'
/-- the first n pulses of a row of shares -/
def pulN (wh : Int) (ss : List Int) (n : Nat) : List Int := (List.range n).map fun (i : Nat) => (ss.take (i + 1)).sum / wh - (ss.take i).sum / wh
theorem pulN_len (wh : Int) (ss : List Int) (n : Nat) : (pulN wh ss n).length = n := by
  unfold pulN
  rw [List.length_map, List.length_range]
theorem pulN_succ (wh : Int) (ss : List Int) (n : Nat) : pulN wh ss (n + 1) = pulN wh ss n ++ [(ss.take (n + 1)).sum / wh - (ss.take n).sum / wh] := by
  unfold pulN
  rw [List.range_succ, List.map_append]
  rfl
theorem pul_step {wh z : Int} {ss : List Int} {i : Nat} (hw : 0 < wh) (hz : ss[i]? = some z) :
    ((ss.take i).sum % wh + z) % wh = (ss.take (i + 1)).sum % wh ∧ (ss.take i).sum / wh + ((ss.take i).sum % wh + z) / wh = (ss.take (i + 1)).sum / wh ∧
    pulN wh ss (i + 1) = pulN wh ss i ++ [((ss.take i).sum % wh + z) / wh] := by
  have e0 : (ss.take (i + 1)).sum = (ss.take i).sum + z := sum_take hz
  have e1 : wh * ((ss.take i).sum / wh) + (ss.take i).sum % wh = (ss.take i).sum := Int.mul_ediv_add_emod _ _
  have e2 : (ss.take (i + 1)).sum = ((ss.take i).sum % wh + z) + wh * ((ss.take i).sum / wh) := by omega
  have e3 : (ss.take (i + 1)).sum / wh = ((ss.take i).sum % wh + z) / wh + (ss.take i).sum / wh := by
    rw [e2, Int.add_mul_ediv_left _ _ (by omega : wh ≠ 0)]
  refine ⟨?_, by omega, ?_⟩
  · rw [e2, Int.add_mul_emod_self_left]
  · rw [pulN_succ, e3]
    congr 2
    omega
def spPulsed (K : PySem.W.Frag) : Sp := fun vs H Q _ => ∃ (wh : Int) (q : Addr) (ss : List Int), vs = [.int wh, .ref q] ∧ 1 ≤ wh ∧ wh ≤ 1000000000000 ∧ H q = some (.lst (ss.map V.int)) ∧ (∀ z ∈ ss, 0 ≤ z ∧ z ≤ wh) ∧ ss.length ≤ 1000 ∧
  ∀ H' r, Same H H' → H r = none → H' r = some (.lst ((pulN wh ss ss.length).map V.int)) → Q (.ref r) H'
end Cm
namespace Cm
open PySem PySem.Spec PyProof.Rows L2
theorem pulN_sum (wh : Int) (ss : List Int) (n : Nat) : (pulN wh ss n).sum = (ss.take n).sum / wh := by
  induction n with
  | zero =>
    show (0 : Int) = (0 : Int) / wh
    rw [Int.zero_ediv]
  | succ n ih =>
    rw [pulN_succ, List.sum_append, ih]
    have e : ([(ss.take (n + 1)).sum / wh - (ss.take n).sum / wh] : List Int).sum = (ss.take (n + 1)).sum / wh - (ss.take n).sum / wh := by
      show _ + (0 : Int) = _
      omega
    rw [e]
    omega
theorem pulN_take (wh : Int) (ss : List Int) (n j : Nat) (h : j ≤ n) : (pulN wh ss n).take j = pulN wh ss j := by
  unfold pulN
  rw [← List.map_take, List.take_range, Nat.min_eq_left h]
theorem apart {wh : Int} (hw : 0 < wh) (ss : List Int) {i j n : Nat} (hij : i ≤ j) (hj : j ≤ n) :
    0 - wh < wh * (((pulN wh ss n).drop i).take (j - i)).sum - ((ss.drop i).take (j - i)).sum ∧ wh * (((pulN wh ss n).drop i).take (j - i)).sum - ((ss.drop i).take (j - i)).sum < wh := by
  rw [sum_cut _ _ _ hij, sum_cut _ _ _ hij, pulN_take _ _ _ _ hj, pulN_take _ _ _ _ (by omega), pulN_sum, pulN_sum, Int.mul_sub]
  have e1 : wh * ((ss.take j).sum / wh) + (ss.take j).sum % wh = (ss.take j).sum := Int.mul_ediv_add_emod _ _
  have e2 : wh * ((ss.take i).sum / wh) + (ss.take i).sum % wh = (ss.take i).sum := Int.mul_ediv_add_emod _ _
  have l1 := mod_lt (a := (ss.take j).sum) hw
  have l2 := mod_lt (a := (ss.take i).sum) hw
  omega
/-- one share throughout -/
theorem take_rep (k : Int) (n j : Nat) (h : j ≤ n) : ((List.replicate n k).take j).sum = (j : Int) * k := by
  rw [List.take_replicate, Nat.min_eq_left h]
  induction j with
  | zero =>
    rw [List.replicate_zero]
    show (0 : Int) = ((0 : Nat) : Int) * k
    rw [show ((0 : Nat) : Int) = 0 from rfl, Int.zero_mul]
  | succ j ih =>
    rw [List.replicate_succ, List.sum_cons, ih (by omega)]
    rw [show ((j + 1 : Nat) : Int) = (j : Int) + 1 by omega, Int.add_mul, Int.one_mul]
    omega
theorem rep3 (xs : List V) : (List.replicate 3 xs).flatten = xs ++ (xs ++ xs) := by
  simp [List.replicate]
theorem evenN_add (b k : Int) (n m : Nat) : evenN b k 0 (n + m) = evenN b k 0 n ++ evenN b k n m := by
  induction m with
  | zero =>
    rw [Nat.add_zero]
    show _ = evenN b k 0 n ++ []
    rw [List.append_nil]
  | succ m ih =>
    rw [← Nat.add_assoc, evenN_succ, ih, evenN_succ, List.append_assoc, show (0 : Int) + ((n + m : Nat) : Int) = (n : Int) + (m : Int) by omega]
theorem evenN_round {b k : Int} (hb : 0 < b) (t : Int) (n : Nat) : evenN b k (t + b) n = evenN b k t n := by
  unfold evenN
  refine List.map_congr_left fun i _ => ?_
  rw [show t + b + (i : Int) = t + (i : Int) + b by omega, bitE_round hb]
theorem rep_even {b k : Int} (hb : 0 < b) : pulN b (List.replicate (3 * b.toNat) k) (3 * b.toNat) = evenL b k 0 ++ (evenL b k 0 ++ evenL b k 0) := by
  have e : pulN b (List.replicate (3 * b.toNat) k) (3 * b.toNat) = evenN b k 0 (3 * b.toNat) := by
    unfold pulN evenN
    refine List.map_congr_left fun i hi => ?_
    have hi' : i < 3 * b.toNat := List.mem_range.mp hi
    rw [take_rep _ _ _ (by omega), take_rep _ _ _ (by omega)]
    unfold bitE
    rw [show (0 : Int) + (i : Int) = (i : Int) by omega, show ((i + 1 : Nat) : Int) = (i : Int) + 1 by omega]
  have hn : ((b.toNat : Nat) : Int) = b := by omega
  rw [e, show 3 * b.toNat = b.toNat + (b.toNat + b.toNat) by omega, evenN_add]
  have e2 : ∀ m, evenN b k ((b.toNat : Nat) : Int) m = evenN b k 0 m := fun m => by
    rw [hn]
    have := evenN_round hb (k := k) 0 m
    rw [show (0 : Int) + b = b by omega] at this
    exact this
  rw [e2, evenN_add, e2]
  rfl
end Cm
namespace Cm
open PySem PySem.Spec PyProof.Rows L2
/-! ### a def whose code object is known -/
section
variable {P : Program} {w : World} {K : PySem.W.Frag} {mg : Str → Option Value} {base : Heap}
theorem ok_at {CX : CXT} {x qual : Str} {st : Stmt} {f : Addr} {oc : Value} {od an : Option Addr} {osl : Array (Option Value)} {kV doc pm cdv ct : Value} {N ps : List Str} {k : Nat} {sp : Sp}
    (lk : K.lookup f = some ⟨oc, od, .func (PySem.W.fnOf x qual (defArgs st) (defBody st) (defScope st) .none kV doc pm an cdv ct), osl⟩) (hcd : PySem.W.codeIn K cdv qual = true) (S : FnScope N ps (defScope st)) (len : ∀ vs H Q E, sp vs H Q E → vs.length = ps.length)
    (hbody : ∀ (A : Around) (outer : List Env) (s : Shared) (H : Hp) (vs : List V) (Q : VK) (E : XK), Room k (A.deeper (envOfC qual (defScope st) s.heap.objs.size f cdv)) → sp vs H Q E →
      ∃ t, PSs (cxOf CX P w K mg base N qual (defScope st) f cdv A outer s H E).nox (defBody st) t ∧ t { nx := fun _ H' => Q .non H', rt := Q } (start N vs) H) :
    FnOk P w K mg base CX (k + 1) f (PySem.W.fnOf x qual (defArgs st) (defBody st) (defScope st) .none kV doc pm an cdv ct) ps sp :=
  fn_of lk hcd S len fun A outer s H vs Q E hr hsp => by
    obtain ⟨t, h, q⟩ := hbody A outer s H vs Q E hr hsp
    exact ⟨t, h.nox, q⟩
end
/-! ### how often a flat thing stands in a list -/
def rCntF (K : PySem.W.Frag) : V → List V → Hp → VK → Prop := fun x xs H Q => ∃ (p : Addr) (ys : List V) (y : V), x = .ref p ∧ xs = [y] ∧ SqL K H p ys ∧ flatV y = true ∧ ys.all flatV = true ∧ Q (.int (ys.countP fun z => eqV z y : Nat)) H
theorem cnt_eqU {x : V} : ∀ {xs : List V} {us : List Value}, Vals xs us → xs.all flatV = true → us.countP (eqU x) = xs.countP fun y => eqV y x
  | _, _, .nil, _ => rfl
  | y :: xs, u :: us, .cons r t, f => by
    rw [List.all_cons, Bool.and_eq_true] at f
    rw [List.countP_cons, List.countP_cons, eqU_of r f.1, cnt_eqU t f.2]
theorem mt_countF {X : Cx} : MtR X "list.count" (rCntF X.K) := by
  intro pins s σ H x xs v us Q I rx rxs h
  obtain ⟨p, ys, y, rfl, rfl, hs, fy, fys, q⟩ := h
  cases rx
  obtain ⟨u, rfl, ru⟩ := rxs.one
  obtain ⟨its, rv, pl, hlen⟩ := I.list hs
  obtain ⟨⟨cls, dd, data, sl⟩, n, ho, hc, hdn, hd⟩ := pl
  simp only at hc hd
  subst hc hd
  have hm : ∀ (A' : Around) (s' : Shared) (z : Value), z ∈ its.toArray → SeqAt.EqAt A' s' z u (eqU y z) := fun A' s' z hz => mem_eqAt ru fy rv fys z (by simpa using hz)
  refine call_meets PySem.F.slot_list_count ⟨_, ho, rfl⟩ PySem.F.entry_list_count (PySem.F.args_list_count_2 _ _) (SeqAt.list_countAt p its.toArray n dd sl u (eqU y)) ⟨ho, hm _ _, ?_⟩
  have ec : its.toArray.toList.countP (eqU y) = ys.countP fun z => eqV z y := cnt_eqU rv fys
  refine ⟨.int ((ys.countP fun z => eqV z y : Nat) : Int), H, I.tok _, ⟨s.toks, ?_⟩, q⟩
  exact congrArg (fun n : Nat => Value.int (n : Int) s.toks) ec
/-! ### what is not reached -/
theorem pe_nev {X : Cx} {e : Expr} : PE X e (fun _ _ _ => False) := ⟨fun _ _ _ _ _ _ h => h.elim⟩
/-! ### the word of a refusal -/
/-- the classes of the refusals, in the order in which the law asks -/
structure RKinds where
  pe : Addr
  c0 : Addr
  c1 : Addr
  c2 : Addr
  c3 : Addr
  c4 : Addr
  c5 : Addr
  c6 : Addr
def kword : Nat → Str
  | 0 => "BadFrame"
  | 1 => "BadShare"
  | 2 => "BadWidth"
  | 3 => "BadBegins"
  | 4 => "BadRuns"
  | _ => "NoRoom"
/-- D is the class of number j -/
structure IsKind (K : PySem.W.Frag) (C : RKinds) (D : Addr) (j : Nat) : Prop where
  j6 : j < 6
  ex : ExcC K D
  pe : PySem.W.exmOne K (.ref D) (.ref C.pe) = some true
  k0 : PySem.W.kitOne K (.ref D) (.ref C.c0) = some (decide (j = 0))
  k1 : PySem.W.kitOne K (.ref D) (.ref C.c1) = some (decide (j = 1))
  k2 : PySem.W.kitOne K (.ref D) (.ref C.c2) = some (decide (j = 2))
  k3 : PySem.W.kitOne K (.ref D) (.ref C.c3) = some (decide (j = 3))
  k4 : PySem.W.kitOne K (.ref D) (.ref C.c4) = some (decide (j = 4))
  k5 : PySem.W.kitOne K (.ref D) (.ref C.c5) = some (decide (j = 5))
  k6 : PySem.W.kitOne K (.ref D) (.ref C.c6) = some false
  kv : PySem.W.kitOne K (.ref D) (.type "ValueError") = some true
/-- what the law's def makes of a work: what it tells, or the word of its refusal -/
def TKind (K : PySem.W.Frag) (C : RKinds) : (XK → Hp → VK → Prop) → Hp → VK → Prop := fun tl H Q =>
  tl (fun cls d H' => ∃ (D : Addr) (j : Nat), cls = .ref D ∧ d = none ∧ IsKind K C D j ∧ ∀ H'', Same H' H'' → Q (.str (kword j)) H'') H Q
structure KTxt (mg : Str → Option Value) (C : RKinds) : Prop where
  gpe : mg "PulseError" = some (.ref C.pe)
  g0 : mg "BadFrame" = some (.ref C.c0)
  g1 : mg "BadShare" = some (.ref C.c1)
  g2 : mg "BadWidth" = some (.ref C.c2)
  g3 : mg "BadBegins" = some (.ref C.c3)
  g4 : mg "BadRuns" = some (.ref C.c4)
  g5 : mg "NoRoom" = some (.ref C.c5)
  g6 : mg "BadText" = some (.ref C.c6)
  isi : mg "isinstance" = none
  ve : mg "ValueError" = none
/-- the words of the law's def, as they stand in its list -/
def kwords : List V := [.str "BadFrame", .str "BadShare", .str "BadWidth", .str "BadBegins", .str "BadRuns", .str "NoRoom", .str "BadText"]
def kbits (j : Nat) : List V := [.bl (decide (j = 0)), .bl (decide (j = 1)), .bl (decide (j = 2)), .bl (decide (j = 3)), .bl (decide (j = 4)), .bl (decide (j = 5)), .bl false]
theorem kbits_one {j : Nat} (h : j < 6) : (kbits j).countP (fun z => eqV z (.bl true)) = 1 := by
  have hj : j = 0 ∨ j = 1 ∨ j = 2 ∨ j = 3 ∨ j = 4 ∨ j = 5 := by omega
  rcases hj with rfl | rfl | rfl | rfl | rfl | rfl <;> rfl
theorem kbits_at {j : Nat} (h : j < 6) : (kbits j)[j]? = some (.bl true) := by
  have hj : j = 0 ∨ j = 1 ∨ j = 2 ∨ j = 3 ∨ j = 4 ∨ j = 5 := by omega
  rcases hj with rfl | rfl | rfl | rfl | rfl | rfl <;> rfl
theorem kbits_ahead {j : Nat} (h : j < 6) (m : Nat) (z : V) (hm : m < j) (hz : (kbits j)[m]? = some z) : eqV z (.bl true) = false := by
  have hj : j = 0 ∨ j = 1 ∨ j = 2 ∨ j = 3 ∨ j = 4 ∨ j = 5 := by omega
  have hmm : m = 0 ∨ m = 1 ∨ m = 2 ∨ m = 3 ∨ m = 4 := by omega
  rcases hj with rfl | rfl | rfl | rfl | rfl | rfl <;> rcases hmm with rfl | rfl | rfl | rfl | rfl <;> first | omega | (cases Option.some.inj hz; rfl)
theorem kwords_at {j : Nat} (h : j < 6) : kwords[j]? = some (.str (kword j)) := by
  have hj : j = 0 ∨ j = 1 ∨ j = 2 ∨ j = 3 ∨ j = 4 ∨ j = 5 := by omega
  rcases hj with rfl | rfl | rfl | rfl | rfl | rfl <;> rfl
theorem kword_no {j : Nat} (h : j < 6) : ¬ V.str (kword j) = V.str "BadText" := by
  have hj : j = 0 ∨ j = 1 ∨ j = 2 ∨ j = 3 ∨ j = 4 ∨ j = 5 := by omega
  rcases hj with rfl | rfl | rfl | rfl | rfl | rfl <;> decide +kernel
end Cm
namespace Cm
open PySem PySem.Spec PyProof.Rows L2
/-! ### the tables of code objects, the law's lists -/
theorem tabs_but {T : List (Addr × Str)} {p : Addr} {H H' : Hp} {l : List V} (t : LamX.Tabs T H) (e : But p H H') (hp : H p = some (.lst l)) : LamX.Tabs T H' := fun q hq => by
  obtain ⟨ps, h1, h2, h3⟩ := t q hq
  refine ⟨ps, e _ _ h1 (ne_of h1 hp (fun z => nomatch z)), h2, fun pos cv hc => ?_⟩
  obtain ⟨c, e1, e2⟩ := h3 pos cv hc
  exact ⟨c, e1, e _ _ e2 (ne_of e2 hp (fun z => by unfold LamX.CodeO at z; cases z))⟩
theorem StAt.tabs {K : PySem.W.Frag} {T : List (Addr × Str)} {p a : Addr} {ns : List Int} {H H' : Hp} (h : StAt K p a ns H) (t : LamX.Tabs T H) (e : But p H H') : LamX.Tabs T H' := by
  obtain ⟨c, m, l, h1, _⟩ := h
  exact tabs_but t e h1
theorem extN_lst {H H' : Hp} (e : LamX.ExtN H H') {b : Addr} {l : List V} (h : H b = some (.lst l)) : H' b = some (.lst l) := e _ _ h (fun _ z => nomatch z)
theorem SqL.extN {K : PySem.W.Frag} {H H' : Hp} {a : Addr} {xs : List V} (h : SqL K H a xs) (e : LamX.ExtN H H') : SqL K H' a xs := by
  rcases h with (h | ⟨o, h⟩) | h
  · exact .inl (.inl (extN_lst e h))
  · exact .inl (.inr ⟨o, e _ _ h (fun _ z => nomatch z)⟩)
  · exact .inr h
theorem StAt.extN {K : PySem.W.Frag} {p a : Addr} {ns : List Int} {H H' : Hp} (h : StAt K p a ns H) (e : LamX.ExtN H H') : StAt K p a ns H' := by
  obtain ⟨c, m, l, h1, h2, h3, h4, h5, h6, h7⟩ := h
  exact ⟨c, m, l, extN_lst e h1, h2, h3, h4, h5, SqL.extN h6 e, h7⟩
def spLawT (K : PySem.W.Frag) (PL : Addr) : Sp := fun vs H Q _ => ∃ (a : Addr) (ns : List Int), vs = [.ref a] ∧ SqL K H a (ns.map V.int) ∧ H PL = some (.tbl #[]) ∧ ∀ H', Q (.bl true) H'
theorem tabs_one {PL : Addr} {q : Str} {H : Hp} (h : H PL = some (.tbl #[])) : LamX.Tabs [(PL, q)] H := fun p hp => by
  rw [List.mem_singleton.mp hp]
  exact LamX.TabS.nil h
/-! ### an own error that is raised with a text -/
structure ErrTxt (K : PySem.W.Frag) (mg : Str → Option Value) (nm : Str) (C : Addr) : Prop where
  x : PySem.W.excIn K C [.type "ValueError", .type "Exception", .type "BaseException", .type "object"] "ValueError.__new__" = true
  g : mg nm = some (.ref C)
  k : PySem.W.keepIn K (.ref C) = true
  b : PySem.W.subIn K (.ref C) (.type "BaseException") = some true
  t : PySem.W.typeIn K (.ref C) = some (.type "type")
def spFar (K : PySem.W.Frag) : Sp := fun vs H Q _ => ∃ (p a : Addr) (ns : List Int) (lo hi : Int), vs = [.ref p, .int lo, .int hi] ∧ StAt K p a ns H ∧
  ∀ H' v, But p H H' → StAt K p a ns H' → (v < lo ∨ hi < v) → Q (.int v) H'
end Cm
namespace CmD
open PySem PySem.Spec PyProof.Rows L2 LamX
/-! ### a lambda with one parameter that has a number by default, handed to a def that calls it with nothing -/
/-- its names: the parameter, which no name of the def around is; captured ones and globals -/
structure LamD (N : List Str) (sc scope : Scope) (b : Str) : Prop where
  kind : scope.kind = .function
  co : scope.isCoroutine = false
  gen : scope.isGenerator = false
  nocell : ∀ y ∈ scope.names, y.2 ≠ .cell
  par : scope.names.lookup b = some .local
  own : ∀ y, scope.names.lookup y = some .local → y ∉ N
  free : ∀ y ∈ scope.names, y.2 = .free → sc.names.lookup y.1 = some .cell ∨ sc.names.lookup y.1 = some .free
theorem LamD.has {X : Cx} {scope : Scope} {b : Str} (L : LamD X.N X.env.scope scope b) (ok : X.Ok) : ∀ y ∈ scope.names, y.2 = .free → ∃ c, X.env.cells.lookup y.1 = some c := fun y hy e => (L.free y hy e).elim (fun z => ok.has _ (.inl z)) (fun z => ok.has _ (.inr z))
section
variable {X : Cx} {pins : List (Addr × Obj)} {σ : L2.St} {H HZ : Hp} {s s1 : Shared}
abbrev dfn (X : Cx) (params : Arguments) (body : Expr) (scope : Scope) (t : Addr) (doc pm : Value) (c' : Addr) (ctv : Value) : FuncData :=
  PySem.W.kdv_fn "<lambda>" (X.env.qual ++ "<lambda>") params (.expr body) scope (cloFrom X.env.cells scope.names []) (.ref t) doc pm (.ref c') ctv
abbrev dobj (X : Cx) (params : Arguments) (body : Expr) (scope : Scope) (t : Addr) (doc pm : Value) (c' : Addr) (ctv : Value) : Obj := { cls := .type "function", data := .func (dfn X params body scope t doc pm c' ctv) }
theorem lam_makeD {T : List (Addr × Str)} {c P : Addr} {params : Arguments} {body : Expr} {scope : Scope} {b : Str} {pos dp : Pos} {z : Int} {j : Nat} {E : Value → Shared → Prop} {Q : Value → Shared → Prop} (I : Inv X pins σ H s) (TB : TabB X.base X.mg c P) (co : X.env.code = .ref c)
    (mT : (P, X.env.qual ++ "<lambda>") ∈ T) (uT : ∀ p ∈ T, p.1 = P → p.2 = X.env.qual ++ "<lambda>") (tT : Tabs T H) (hd : params.defaults = [.Constant (.int z) j dp]) (hk0 : params.kw_defaults = []) (L : LamD X.N X.env.scope scope b)
    (fin : ∀ (f c' t : Addr) (doc pm ctv : Value) (tk : Tok) (H1 : Hp) (s' : Shared), Inv X pins σ H1 s' → ExtN H H1 → Tabs T H1 → s'.heap.get? f = some (dobj X params body scope t doc pm c' ctv) → H1 f = none → f ∉ frs X.stack →
      s'.heap.get? t = some (PySem.W.kdv_tup [Value.int z tk]) → H1 t = none → t ∉ frs X.stack → H1 c' = some (CodeO c' (X.env.qual ++ "<lambda>")) → Q (.ref f) s') :
    wpAny (model X.prog X.w) X.A (eval (.Lambda params body scope pos) X.env) Q E s := by
  have hfree := L.has I.ok
  refine PySem.W.kdv_lam (by rw [hd]; rfl) hk0 ?_
  rw [hd]
  refine PySem.W.kdv_all1 (thn ((pe_int (X := X) (i := z) (j := j) (pos := dp)).run pins s σ H (fun v G => v = V.int z ∧ G = H) I ⟨rfl, rfl⟩) fun u s0 ⟨v, G, J, rv, ev, eG⟩ => PySem.W.kdv_all0 ?_)
  subst ev
  rw [eG] at J
  clear eG G
  obtain ⟨tk, rfl⟩ := rv
  rw [makeFunction_eq]
  simp only [List.zip_nil_right, List.filterMap_nil, List.isEmpty_nil, List.isEmpty_cons, if_true, pure_bind, Bool.false_eq_true, if_false]
  refine wpAny_bind (wpAny_newTextTuple ?_)
  have JT : Inv X pins σ H { s0 with heap := s0.heap.push (PySem.W.kdv_tup [Value.int z tk]) } := J.kept (t' := s0.toks) fun b o e => Heap.get?_push_of_some _ e
  have tupAt : (s0.heap.push (PySem.W.kdv_tup [Value.int z tk])).get? s0.heap.objs.size = some (PySem.W.kdv_tup [Value.int z tk]) := Heap.get?_push_size _ rfl
  have tupN : ∀ G : Hp, (∀ b, G b ≠ none → H b ≠ none ∨ s0.heap.objs.size < b) → G s0.heap.objs.size = none := fun G h => by
    cases e : G s0.heap.objs.size with
    | none => rfl
    | some o =>
      rcases h _ (by rw [e]; simp) with q | q
      · exact absurd (J.hok.fresh (Nat.le_refl _)) q
      · exact absurd q (Nat.lt_irrefl _)
  have nofr0 : ∀ f, s0.heap.objs.size ≤ f → f ∉ frs X.stack := fun f hf q => by
    rcases List.mem_cons.mp (J.stkSub _ q) with e | e
    · have h1 := J.lt
      rw [← e] at h1
      exact Nat.lt_irrefl _ (Nat.lt_of_lt_of_le h1 hf)
    · exact J.nofs hf e
  have grown : (s0.heap.push (PySem.W.kdv_tup [Value.int z tk])).objs.size = s0.heap.objs.size + 1 := Heap.size_push ..
  generalize eh : s0.heap.push (PySem.W.kdv_tup [Value.int z tk]) = hp at JT tupAt grown
  have tn0 : H s0.heap.objs.size = none := J.hok.fresh (Nat.le_refl _)
  generalize ett : s0.heap.objs.size = tt at tupAt grown tn0 nofr0 tupN
  obtain ⟨pz, hP, ht, ha⟩ := tT _ mT
  have bP : hp.BuiltinsAt X.mg P := TB.bm.keeps JT.bk
  have hPo : hp.get? P = some { cls := .none, data := .fields pz } := JT.hok P _ hP
  cases hc : codeAmong pos pz.toList with
  | none =>
    refine PySem.W.kdv_makeTail (s := { s0 with heap := hp }) (mg := X.mg) (c := c) (P := P) (ps := pz) (closure_ok hfree) JT.ok.glob (JT.mod.glob.keeps JT.bk) co (TB.code.keeps JT.bk) hPo ht hc TB.gP bP fun c' ctv doc h' tk2 hx hge hlt hrec htb => ?_
    have hge : hp.objs.size ≤ c' := hge
    obtain ⟨c2, oc, vs, t, e2, hoc, hdt, hv⟩ := hrec
    cases e2
    have hsz : hp.objs.size ≤ h'.objs.size := Nat.le_trans hge (Nat.le_of_lt hlt)
    have nC : H c' = none := JT.hok.fresh hge
    have hx : Heap.ExtBut P hp h' := hx
    have I1 := inv_table (t' := tk2) (more := #[rawInt pos.line, rawInt pos.col, .ref c']) (h' := h'.push (dobj X params body scope tt doc ((X.mg "__name__").getD .none) c' ctv)) JT hP
      (fun b o hb e => Heap.get?_push_of_some _ (hx b o hb e)) (Heap.get?_push_of_some _ htb) hge ⟨oc, vs, t, Heap.get?_push_of_some _ hoc, hdt, hv⟩
    have hE : ExtN H (upd (upd H P (.tbl (pz ++ #[rawInt pos.line, rawInt pos.col, .ref c']))) c' (CodeO c' (X.env.qual ++ "<lambda>"))) := fun b o e n => by
      rw [upd_ne (ne_of_none e nC), upd_ne (fun q => n pz (Option.some.inj (e.symm.trans (by rw [q]; exact hP)))), e]
    have eL : (pz ++ #[rawInt pos.line, rawInt pos.col, .ref c']).toList = pz.toList ++ [rawInt pos.line, rawInt pos.col, .ref c'] := by simp
    have ltP : P < hp.objs.size := Heap.lt_size hPo
    have tP : tt ≠ P := fun q => by
      rw [q] at tn0
      rw [tn0] at hP
      cases hP
    have nn : ∀ g, hp.objs.size ≤ g → g ≠ c' → (upd (upd H P (.tbl (pz ++ #[rawInt pos.line, rawInt pos.col, .ref c']))) c' (CodeO c' (X.env.qual ++ "<lambda>"))) g = none := fun g hg n => by
      rw [upd_ne n, upd_ne (Nat.ne_of_gt (Nat.lt_of_lt_of_le ltP hg))]
      exact JT.hok.fresh hg
    refine fin h'.objs.size c' tt doc ((X.mg "__name__").getD .none) ctv tk _ _ I1 hE (fun p hp2 => ?_) (Heap.get?_push_size _ rfl) (nn _ hsz (Nat.ne_of_gt hlt)) (nofr0 _ (by omega)) (Heap.get?_push_of_some _ (hx _ _ tP tupAt)) ?_ (nofr0 _ (Nat.le_refl _)) upd_same
    · by_cases hb : p.1 = P
      · rw [uT p hp2 hb, hb]
        refine ⟨_, by rw [upd_ne (ne_of_none hP nC), upd_same], by rw [eL]; exact PySem.TriplesOk_snoc _ _ _ _ ht, fun p' cv hcv => ?_⟩
        rw [eL] at hcv
        rcases among_app _ ht hcv with q | q
        · obtain ⟨c0, e1, e2⟩ := ha p' cv q
          exact ⟨c0, e1, hE _ _ e2 codeO_ne⟩
        · exact ⟨c', q, upd_same⟩
      · obtain ⟨pz', a1, a2, a3⟩ := tT p hp2
        refine ⟨pz', by rw [upd_ne (ne_of_none a1 nC), upd_ne hb, a1], a2, fun p' cv hcv => ?_⟩
        obtain ⟨c0, e1, e2⟩ := a3 p' cv hcv
        exact ⟨c0, e1, hE _ _ e2 codeO_ne⟩
    · rw [upd_ne (show tt ≠ c' by omega), upd_ne tP]
      exact tn0
  | some cv =>
    obtain ⟨c', e, hco⟩ := ha pos cv hc
    subst e
    refine PySem.W.kdv_makeTailHit (s := { s0 with heap := hp }) (mg := X.mg) (c := c) (P := P) (ps := pz) (closure_ok hfree) JT.ok.glob (JT.mod.glob.keeps JT.bk) co (TB.code.keeps JT.bk) hPo ht hc bP fun ctv doc h' tk2 hx hsz => ?_
    have hsz : hp.objs.size ≤ h'.objs.size := hsz
    have I1 : Inv X pins σ H { s0 with heap := h'.push (dobj X params body scope tt doc ((X.mg "__name__").getD .none) c' ctv), toks := tk2 } := JT.kept fun b o e => Heap.get?_push_of_some _ (hx b o e)
    exact fin h'.objs.size c' tt doc ((X.mg "__name__").getD .none) ctv tk H _ I1 (ExtN.refl H) tT (Heap.get?_push_size _ rfl) (JT.hok.fresh hsz) (nofr0 _ (by omega)) (Heap.get?_push_of_some _ (hx _ _ tupAt)) tn0 (nofr0 _ (Nat.le_refl _)) hco
theorem lam_startD {A : Around} {outer : List Env} {E : XK} {scope : Scope} {b : Str} {dv : Value} {f c' : Addr} {h₁ : Heap} {tk : Nat} (I : Inv X pins σ H s) (L : LamD X.N X.env.scope scope b) (e0 : Env0 X.prog X.w X.K X.mg X.base A outer s1 HZ) (hh : A.handled = none)
    (un : Un (frs X.stack) [] H HZ s.heap s1.heap) (ns1 : h₁.Ns s1.heap.objs.size fun y => ([(b, dv)] : List (Str × Value)).reverse.lookup y) (kp : ∀ b o, s1.heap.get? b = some o → h₁.get? b = some o) :
    Inv (lamCx X A outer s1 HZ E scope f c') [] σ HZ { s1 with heap := h₁, toks := tk } := by
  have fr := L.has I.ok
  have cm : ∀ {y c}, (cloFrom X.env.cells scope.names []).lookup y = some c → X.env.cells.lookup y = some c := fun {y c} e => by
    rcases cloFrom_mem (PySem.mem_of_lookup e) with q | ⟨h1, h2⟩
    · cases q
    · obtain ⟨c1, q⟩ := fr _ h1 rfl
      have q : X.env.cells.lookup y = some c1 := q
      have e2 : c = c1 := by rw [h2, q] <;> rfl
      rw [e2, q]
  have look : ∀ {y}, scope.names.lookup y = some .free → ∃ c, (cloFrom X.env.cells scope.names []).lookup y = some c := fun {y} hl =>
    mem_lookup (cloFrom_has (cells := X.env.cells) (acc := []) (PySem.mem_of_lookup hl : (y, NameKind.free) ∈ scope.names))
  have cellK : ∀ {c : Addr} {v : Option Value}, H c = none → s.heap.IsCell c v → h₁.IsCell c v := fun {c v} n ⟨o, ho, hd⟩ => by
    obtain ⟨sl, q⟩ := un.any ho n (by simp)
    exact ⟨_, kp _ _ q, hd⟩
  have noA : ∀ b : Addr, b ∉ (lamCx X A outer s1 HZ E scope f c').ex := fun b q => absurd (show b ∈ ([] : List Addr) from q) (by simp)
  refine ⟨⟨e0.mod, L.kind, rfl, rfl, Nat.le_refl _, fun y q c e1 e2 => I.ok.inj y q c (cm e1) (cm e2), fun y hy => ?_, fun y c q _ => ?_, fun _ => hh, Around.frames_deeper e0.frames, .inr ⟨rfl, rfl⟩, fun b q => absurd q (noA b), e0.bs, e0.bsz, fun b _ _ => noA b, fun b q => absurd q (noA b), e0.funs, e0.frf⟩,
    rfl, e0.bare, Un.kept kp, ⟨_, ns1, fun i y v e1 e2 e3 => ?_⟩, fun y c e => ?_, e0.hok.fresh (Nat.le_refl _), fun y c e => ?_, fun q hq => absurd (show q ∈ ([] : List (Addr × Obj)) ++ [] from hq) (by simp), e0.hok.kept kp, I.len⟩
  · have hy : scope.names.lookup y = some .cell ∨ scope.names.lookup y = some .free := hy
    rcases hy with hy | hy
    · exact absurd rfl (L.nocell _ (PySem.mem_of_lookup hy))
    · exact look hy
  · have q : false = true := q
    cases q
  · have e3 : Vis scope y := e3
    rcases e3 with k | k | k
    · exact absurd (List.mem_of_getElem? e1 : y ∈ X.N) (L.own y k)
    · exact absurd rfl (L.nocell _ (PySem.mem_of_lookup k))
    · obtain ⟨m, hn, hl⟩ := I.loc
      have vis : Vis X.env.scope y := (L.free _ (PySem.mem_of_lookup k) rfl).elim (fun k => .inr (.inl k)) (fun k => .inr (.inr k))
      obtain ⟨w', r, q⟩ := hl i y v e1 e2 vis
      obtain ⟨c2, h2⟩ := look k
      refine ⟨w', r, .inr ⟨.inr k, c2, h2, ?_⟩⟩
      have c1 := cm h2
      rcases q with ⟨k', _⟩ | ⟨_, c3, e', q⟩
      · have k' : X.env.scope.names.lookup y = some .local := k'
        rcases L.free _ (PySem.mem_of_lookup k) rfl with k2 | k2 <;> rw [show X.env.scope.names.lookup y = _ from k2] at k' <;> cases k'
      · rw [c1] at e'
        cases e'
        exact cellK (I.freeC y _ c1) q
  · obtain ⟨w', q⟩ := I.cell y c (cm e)
    exact ⟨w', cellK (I.freeC y c (cm e)) q⟩
  · obtain ⟨v, o, ho, hd⟩ := I.cell y c (cm e)
    exact un.free c o ho (I.freeC y c (cm e)) (by simp)
/-- x(), in the def that got it -/
theorem pe_actD {CXg : CXT} {Eg : XK} {Ng : List Str} {qg : Str} {sg : Scope} {g f c' t : Addr} {cdg doc pm ctv : Value} {params : Arguments} {body : Expr} {scope : Scope} {k i : Nat} {a b : Str} {z : Int} {tk : Tok} {pn : List (Addr × Obj)} {xe : Value → Shared → Prop} {W : WX} {E : XK} {tb : TE} {p1 p2 : Pos}
    (I : Inv X pins σ H s) (L : LamD X.N X.env.scope scope b) (hf : s.heap.get? f = some (dobj X params body scope t doc pm c' ctv)) (hfn : H f = none) (hfr : f ∉ frs X.stack) (htu : s.heap.get? t = some (PySem.W.kdv_tup [Value.int z tk])) (htn : H t = none) (htr : t ∉ frs X.stack)
    (hbind : ∀ s0 : Shared, s0.heap.get? t = some (PySem.W.kdv_tup [Value.int z tk]) → BindsTo s0 (dfn X params body scope t doc pm c' ctv) ⟨[], []⟩ [(b, .int z tk)])
    (tks : Takes ((cxOf CXg X.prog X.w X.K X.mg X.base Ng qg sg g cdg X.A X.stack s H Eg).tr pn xe) W) (hW : ∀ cls d σ' H', E cls d H' → W cls d σ' H') (hr : Room (k + 1) (X.A.deeper (envOfC qg sg s.heap.objs.size g cdg)))
    (hbody : ∀ (A : Around) (outer : List Env) (s : Shared) (H : Hp), Room k (A.deeper (lamEnv X scope s.heap.objs.size f c')) → PE (lamCx X A outer s H E scope f c') body tb)
    (hN : Ng[i]? = some a) (hv : Vis sg a) (h1d : (a == ("__debug__" : Str)) = false := by decide) (h2d : (a == ("__classdict__" : Str)) = false := by decide) :
    PE ((cxOf CXg X.prog X.w X.K X.mg X.base Ng qg sg g cdg X.A X.stack s H Eg).tr pn xe) (.Call (.Name a p1) [] [] p2)
      (fun σZ HZ Q => σZ[i]? = some (some (.ref f)) ∧ HZ c' = some (CodeO c' (X.env.qual ++ "<lambda>")) ∧ tb σ HZ Q) := by
  refine ⟨fun pinsZ sZ σZ HZ Q IZ ⟨hs, hc, ht⟩ => wpAny_Call_Name_kw (thn ((pe_var (pos := p1) (i := i) hN hv h1d h2d).run pinsZ sZ σZ HZ (fun v H1 => v = .ref f ∧ H1 = HZ) IZ ⟨.ref f, hs, rfl, rfl⟩) fun u s1 ⟨v, H1, I1, r1, ev, eH⟩ => ?_)⟩
  subst ev
  rw [eH] at I1
  obtain rfl : u = Value.ref f := r1
  have of1 : s1.heap.get? f = some (dobj X params body scope t doc pm c' ctv) := I1.base.keep f _ hf hfn hfr (fun q => nomatch (show f ∈ ([] : List Addr) from q))
  have ot1 : s1.heap.get? t = some (PySem.W.kdv_tup [Value.int z tk]) := I1.base.keep t _ htu htn htr (fun q => nomatch (show t ∈ ([] : List Addr) from q))
  refine PySem.W.callWith_F0 ⟨_, _, _, _, of1⟩ ?_
  have un : Un (frs X.stack) [] H HZ s.heap s1.heap := I1.base
  obtain ⟨⟨oc, vs, tc, hoc, hdc, hvc⟩, _, _⟩ := I1.hok c' _ hc
  have rc : codeAny (model X.prog X.w) (X.A.deeper (envOfC qg sg s.heap.objs.size g cdg)) (.call (.ref f) ⟨[], []⟩) (CR (L2.CX X.prog X.w) (envOfC qg sg s.heap.objs.size g cdg :: X.stack) X.prog X.w HZ s1 Q E) s1 := by
    refine PySem.W.kla_callFunE hr.depth of1 rfl L.co L.gen rfl ⟨c', oc, vs, tc, rfl, hoc, hdc, hvc⟩ (hbind s1 ot1 _ _ _ _ ?_)
    refine wpAny_newFunctionEnv (fun y hy => L.nocell y hy) (fun y hy => ?_) (fun h₁ n1 hsb => ⟨I1.nolimit.fresh _ hsb, ?_⟩) L.kind
    · rw [List.mem_singleton.mp hy]
      exact L.par
    show codeAny _ _ (.expr body (lamEnv X scope s1.heap.objs.size f c')) _ _
    have kp : ∀ b o, s1.heap.get? b = some o → h₁.get? b = some o := fun b o e => hsb.extBut b o (Nat.ne_of_lt (Heap.lt_size e)) (Heap.get?_push_of_some _ e)
    have J : Inv (lamCx X (X.A.deeper (envOfC qg sg s.heap.objs.size g cdg)) (envOfC qg sg s.heap.objs.size g cdg :: X.stack) s1 HZ E scope f c') [] σ HZ { s1 with heap := h₁, toks := s1.toks + ([(b, Value.int z tk)] : List (Str × Value)).length } := lam_startD I L I1.env0 hr.hd un n1 kp
    exact PySem.W.kla_codeExpr (wpAny_mono ((hbody _ _ s1 HZ (hr.deeper _)).run [] _ _ HZ Q J ht) (fun v s' ⟨w', H', J', rv, q⟩ => ⟨w', H', J'.os, J'.bare, J'.base, J'.hok, rv, q⟩) fun e s' hq => hq)
  have hx : Passes (L2.CX X.prog X.w) ((cxOf CXg X.prog X.w X.K X.mg X.base Ng qg sg g cdg X.A X.stack s H Eg).tr pn xe) E := passes_call tks hW
  refine wpAny_call (codeAny_mono rc fun r s' hq => ?_)
  match r, hq with
  | .error e, hq => exact hx pinsZ σZ HZ s1 e s' I1 hq
  | .ok (.ret u), hq => exact I1.after hq
  | .ok .next, hq => exact False.elim hq
  | .ok .brk, hq => exact False.elim hq
  | .ok .cont, hq => exact False.elim hq
/-- x(lambda b=z: body) -/
theorem pe_lamcallD {T : List (Addr × Str)} {TT : (XK → Hp → VK → Prop) → Hp → VK → Prop} {x a b : Str} {g c P : Addr} {k j : Nat} {z : Int} {dp : Pos} {pg : Arguments} {bg : List Stmt} {sg : Scope} {dV kV doc pm cdv ct oc : Value} {an od : Option Addr} {osl : Array (Option Value)} {Ng : List Str}
    {params : Arguments} {body : Expr} {scope : Scope} {t : XK → TE} {p lpos pos : Pos} (hg : Gl X x) (hm : X.mg x = some (.ref g)) (hk : PySem.W.keepIn X.K (.ref g) = true)
    (lk : X.K.lookup g = some ⟨oc, od, .func (PySem.W.fnOf x x pg bg sg dV kV doc pm an cdv ct), osl⟩) (hcg : PySem.W.codeIn X.K cdv x = true) (hb : L2.Binds X.K (PySem.W.fnOf x x pg bg sg dV kV doc pm an cdv ct) [a] []) (Sg : FnScope Ng [a] sg) (hNg : Ng[0]? = some a) (hva : Vis sg a)
    (hG : GivesTo X Ng x sg g cdv bg a (X.env.qual ++ "<lambda>") TT)
    (TB : TabB X.base X.mg c P) (co : X.env.code = .ref c) (mT : (P, X.env.qual ++ "<lambda>") ∈ T) (uT : ∀ p ∈ T, p.1 = P → p.2 = X.env.qual ++ "<lambda>") (hr : Room (k + 2) X.A) (hd : params.defaults = [.Constant (.int z) j dp]) (hk0 : params.kw_defaults = []) (L : LamD X.N X.env.scope scope b)
    (hbind : ∀ (t : Addr) (doc pm : Value) (c' : Addr) (ctv : Value) (tk : Tok) (s0 : Shared), s0.heap.get? t = some (PySem.W.kdv_tup [Value.int z tk]) → BindsTo s0 (dfn X params body scope t doc pm c' ctv) ⟨[], []⟩ [(b, .int z tk)])
    (hbody : ∀ (A : Around) (outer : List Env) (s : Shared) (H : Hp) (E : XK) (f c' : Addr), Room k (A.deeper (lamEnv X scope s.heap.objs.size f c')) → PE (lamCx X A outer s H E scope f c') body (t E))
    (h0d : (x == ("__debug__" : Str)) = false := by decide) (h1d : (a == ("__debug__" : Str)) = false := by decide) (h2d : (a == ("__classdict__" : Str)) = false := by decide) :
    PE X (.Call (.Name x p) [.Lambda params body scope lpos] [] pos) (tLam T TT t) := by
  refine ⟨fun pins s σ H Q I ⟨hT, h⟩ => wpAny_Call_Name_kw (ld_glob I hg hm (PySem.W.callWith_K (h₀ := X.base) I.ok.mod.kin hk ?_ (by rfl) (by rfl)) h0d)⟩
  show wpAny _ _ (spliced ((false, eval (.Lambda params body scope lpos) X.env) :: backTo pos (starEach [] X.env))) _ _ s
  refine Calls.spliced_cons (lam_makeD I TB co mT uT hT hd hk0 L fun f c' tu doc' pm' ctv tk H1 s' I1 eN T1 hf hfn hfr htu htn htr hco => Calls.spliced_nil ⟨I1.kIn, ?_⟩)
  have rc : codeAny (model X.prog X.w) X.A (.call (.ref g) ⟨[.ref f], []⟩) (CR C8.CX0 X.stack X.prog X.w H1 s' Q C8.E0) s' := by
    refine run_ofS (N := Ng) (ps := [a]) (us := [.ref f]) (vs := [.ref f]) lk hcg Sg hr I1.env0 (hb s' [.ref f] I1.kIn rfl) (.cons rfl .nil) rfl fun hr' => ?_
    obtain ⟨t', ht', hq'⟩ := hG f c' s' H1 Q (fun E H' Q' => t E σ H' Q') (fun W pn xe E p1 p2 tks hW => pe_actD (i := 0) I1 L hf hfn hfr htu htn htr (hbind _ _ _ _ _ _) tks hW hr' (fun A outer s H hr2 => hbody A outer s H E f c' hr2) hNg hva h1d h2d) hco (h H1 eN T1)
    exact ⟨t', ht'.nox, hq'⟩
  refine wpAny_call (codeAny_mono rc fun r s2 hq => ?_)
  match r, hq with
  | .error e, hq => exact (show False from hq).elim
  | .ok (.ret u), hq => exact I1.after hq
  | .ok .next, hq => exact False.elim hq
  | .ok .brk, hq => exact False.elim hq
  | .ok .cont, hq => exact False.elim hq
end
def lamDB (N : List Str) (sc scope : Scope) (b : Str) : Bool :=
  decide (scope.kind = .function) && !scope.isCoroutine && !scope.isGenerator && decide (scope.names.lookup b = some .local) && scope.names.all fun y => !decide (y.2 = .cell) && (!decide (y.2 = .local) || !decide (y.1 ∈ N)) && (!decide (y.2 = .free) || decide (sc.names.lookup y.1 = some .cell) || decide (sc.names.lookup y.1 = some .free))
theorem lamD_by {N : List Str} {sc scope : Scope} {b : Str} (h : lamDB N sc scope b = true) : LamD N sc scope b := by
  unfold lamDB at h
  simp only [Bool.and_eq_true, Bool.or_eq_true, Bool.not_eq_true', decide_eq_true_eq, decide_eq_false_iff_not, List.all_eq_true] at h
  obtain ⟨⟨⟨⟨h1, h2⟩, h3⟩, h0⟩, h4⟩ := h
  refine ⟨h1, h2, h3, fun y hy => (h4 y hy).1.1, h0, fun y hy hm => ?_, fun y hy e => ?_⟩
  · rcases (h4 (y, .local) (PySem.mem_of_lookup hy)).1.2 with z | z
    · exact z rfl
    · exact z hm
  · rcases (h4 y hy).2 with (z | z) | z
    · exact absurd e z
    · exact .inl z
    · exact .inr z
end CmD
namespace Cm
open PySem PySem.Spec PyProof.Rows L2
/-! ### streams, that refuse too -/
def spRest (C : Addr) : Sp := fun vs H Q _ => ∃ (p : Addr) (wh l t : Int), vs = [.ref p] ∧ SAt C H p wh l t ∧ Q (.int l) H
def spPuls (C : Addr) : Sp := fun vs H Q _ => ∃ (p : Addr) (wh l t : Int), vs = [.ref p] ∧ SAt C H p wh l t ∧ Q (.int t) H
def spInitX (CS : Addr) : Sp := fun vs H _ E => ∃ (p : Addr) (wh : Int), vs = [.ref p, .int wh] ∧ (wh < 1 ∨ 1000000000000 < wh) ∧ E (.ref CS) none H
def spNextB (C CS : Addr) : Sp := fun vs H Q E => ∃ (p : Addr) (wh l t sh : Int), vs = [.ref p, .int sh] ∧ SAt C H p wh l t ∧
  ((0 ≤ sh ∧ sh ≤ wh ∧ 0 ≤ l ∧ l < wh ∧ ∀ H' : Hp, But p H H' → SAt C H' p wh ((l + sh) % wh) (t + (l + sh) / wh) → Q (.int ((l + sh) / wh)) H') ∨ ((sh < 0 ∨ wh < sh) ∧ E (.ref CS) none H))
def spPulsedX (CS : Addr) : Sp := fun vs H _ E => ∃ (wh : Int) (q : Addr) (ss : List Int), vs = [.int wh, .ref q] ∧ 1 ≤ wh ∧ wh ≤ 1000000000000 ∧ H q = some (.lst (ss.map V.int)) ∧ (∃ (j : Nat) (z : Int), ss[j]? = some z ∧ (z < 0 ∨ wh < z)) ∧ ss.length ≤ 1000 ∧
  ∀ H', Same H H' → E (.ref CS) none H'
/-! ### a side of the law: a stream, its whole, the sum so far, the shares -/
structure SideAt (C : Addr) (H : Hp) (sd st sh : Addr) (wh : Int) (ss : List Int) : Prop where
  sd : H sd = some (.lst [.ref st, .int wh, .int ss.sum, .ref sh])
  st : SAt C H st wh (ss.sum % wh) (ss.sum / wh)
  sh : H sh = some (.lst (ss.map V.int))
  w1 : 1 ≤ wh
  w2 : wh ≤ 1000000000000
  good : ∀ z ∈ ss, 0 ≤ z ∧ z ≤ wh
theorem SideAt.keep {C : Addr} {H H' : Hp} {sd st sh : Addr} {wh : Int} {ss : List Int} (h : SideAt C H sd st sh wh ss) (k : ∀ b o, (b = sd ∨ b = st ∨ b = sh) → (∀ ps, o ≠ .tbl ps) → H b = some o → H' b = some o) : SideAt C H' sd st sh wh ss := by
  obtain ⟨dx, e⟩ := h.st
  exact ⟨k _ _ (.inl rfl) (fun _ z => nomatch z) h.sd, ⟨dx, k _ _ (.inr (.inl rfl)) (fun _ z => nomatch z) e⟩, k _ _ (.inr (.inr rfl)) (fun _ z => nomatch z) h.sh, h.w1, h.w2, h.good⟩
theorem SideAt.same {C : Addr} {H H' : Hp} {sd st sh : Addr} {wh : Int} {ss : List Int} (h : SideAt C H sd st sh wh ss) (e : Same H H') : SideAt C H' sd st sh wh ss := h.keep fun b o _ _ x => e b o x
theorem SideAt.extN {C : Addr} {H H' : Hp} {sd st sh : Addr} {wh : Int} {ss : List Int} (h : SideAt C H sd st sh wh ss) (e : LamX.ExtN H H') : SideAt C H' sd st sh wh ss := h.keep fun b o _ n x => e b o x n
theorem SideAt.nep {K : PySem.W.Frag} {C p a : Addr} {ns : List Int} {H : Hp} {sd st sh : Addr} {wh : Int} {ss : List Int} (h : SideAt C H sd st sh wh ss) (S : StAt K p a ns H) : sd ≠ p ∧ st ≠ p ∧ sh ≠ p := by
  obtain ⟨c, m, l, h1, _⟩ := S
  obtain ⟨dx, e⟩ := h.st
  refine ⟨fun z => ?_, fun z => ?_, fun z => ?_⟩
  · have e1 := h.sd
    rw [z, h1] at e1
    have e2 := HO.lst.inj (Option.some.inj e1)
    simp [stV] at e2
  · rw [z, h1] at e
    cases e
  · have e1 := h.sh
    rw [z, h1] at e1
    have e2 := HO.lst.inj (Option.some.inj e1)
    cases ss with
    | nil => cases e2
    | cons x r =>
      rw [List.map_cons] at e2
      injection e2 with e3 _
      cases e3
theorem SideAt.but {K : PySem.W.Frag} {C p a : Addr} {ns : List Int} {H H' : Hp} {sd st sh : Addr} {wh : Int} {ss : List Int} (h : SideAt C H sd st sh wh ss) (S : StAt K p a ns H) (e : But p H H') : SideAt C H' sd st sh wh ss := by
  obtain ⟨n1, n2, n3⟩ := h.nep S
  refine h.keep fun b o hb _ x => e b o x ?_
  rcases hb with rfl | rfl | rfl
  · exact n1
  · exact n2
  · exact n3
theorem SideAt.ne {C : Addr} {H : Hp} {sd st sh : Addr} {wh : Int} {ss : List Int} (h : SideAt C H sd st sh wh ss) : sd ≠ sh ∧ sd ≠ st ∧ sh ≠ st := by
  obtain ⟨dx, e⟩ := h.st
  refine ⟨fun z => ?_, fun z => ?_, fun z => ?_⟩
  · have e1 := h.sd
    rw [z, h.sh] at e1
    have e2 := HO.lst.inj (Option.some.inj e1)
    cases ss with
    | nil => cases e2
    | cons x r =>
      rw [List.map_cons] at e2
      injection e2 with e3 _
      cases e3
  · rw [← z, h.sd] at e
    cases e
  · rw [← z, h.sh] at e
    cases e
def spBeat (K : PySem.W.Frag) (C : Addr) (T : List (Addr × Str)) : Sp := fun vs H Q _ => ∃ (p a sd st sh : Addr) (ns : List Int) (wh : Int) (ss : List Int), vs = [.ref p, .ref sd] ∧ StAt K p a ns H ∧ LamX.Tabs T H ∧ SideAt C H sd st sh wh ss ∧ ss.length ≤ 1000 ∧
  NA K a (ns.map V.int) sd ∧ NA K a (ns.map V.int) st ∧ NA K a (ns.map V.int) sh ∧
  ∀ (H' : Hp) (c : Int), StAt K p a ns H' → LamX.Tabs T H' → SideAt C H' sd st sh wh (ss ++ [c]) → (∀ b o, H b = some o → b ≠ p → b ≠ sd → b ≠ sh → b ≠ st → (∀ ps, o ≠ .tbl ps) → H' b = some o) → Q (.bl true) H'
def spLaw2 (K : PySem.W.Frag) (PL PB : Addr) : Sp := fun vs H Q _ => ∃ (a : Addr) (ns : List Int), vs = [.ref a] ∧ SqL K H a (ns.map V.int) ∧ H PL = some (.tbl #[]) ∧ H PB = some (.tbl #[]) ∧ ∀ H', Q (.bl true) H'
theorem tabs_two {PL PB : Addr} {q r : Str} {H : Hp} (h : H PL = some (.tbl #[])) (g : H PB = some (.tbl #[])) : LamX.Tabs [(PL, q), (PB, r)] H := fun p hp => by
  rcases List.mem_cons.mp hp with rfl | hp
  · exact LamX.TabS.nil h
  · rw [List.mem_singleton.mp hp]
    exact LamX.TabS.nil g
structure Side where
  sd : Addr
  st : Addr
  sh : Addr
  wh : Int
  ss : List Int
/-- sides, each with objects of its own, none of which is the script's list or the list of the sides -/
structure SidesAt (K : PySem.W.Frag) (C a : Addr) (ns : List Int) (H : Hp) (sds : Addr) (l : List Side) : Prop where
  each : ∀ x ∈ l, SideAt C H x.sd x.st x.sh x.wh x.ss ∧ NA K a (ns.map V.int) x.sd ∧ NA K a (ns.map V.int) x.st ∧ NA K a (ns.map V.int) x.sh ∧ x.sd ≠ sds ∧ x.st ≠ sds ∧ x.sh ≠ sds
  apart : ∀ (i j : Nat) (x y : Side), l[i]? = some x → l[j]? = some y → i ≠ j → x.sd ≠ y.sd ∧ x.st ≠ y.st ∧ x.sh ≠ y.sh
  na : NA K a (ns.map V.int) sds
theorem SidesAt.keep {K : PySem.W.Frag} {C a : Addr} {ns : List Int} {H H' : Hp} {sds : Addr} {l : List Side} (L : SidesAt K C a ns H sds l) (k : ∀ x ∈ l, SideAt C H x.sd x.st x.sh x.wh x.ss → SideAt C H' x.sd x.st x.sh x.wh x.ss) : SidesAt K C a ns H' sds l :=
  ⟨fun x hx => ⟨k x hx (L.each x hx).1, (L.each x hx).2⟩, L.apart, L.na⟩
theorem SideAt.fresh {C : Addr} {H : Hp} {sd st sh b : Addr} {wh : Int} {ss : List Int} (h : SideAt C H sd st sh wh ss) (n : H b = none) : sd ≠ b ∧ st ≠ b ∧ sh ≠ b := by
  obtain ⟨dx, e⟩ := h.st
  exact ⟨ne_of_none h.sd n, ne_of_none e n, ne_of_none h.sh n⟩
theorem SidesAt.push {K : PySem.W.Frag} {C a : Addr} {ns : List Int} {H H' : Hp} {sds : Addr} {l : List Side} (L : SidesAt K C a ns H sds l) (n : Side) (h : SideAt C H' n.sd n.st n.sh n.wh n.ss) (na1 : NA K a (ns.map V.int) n.sd) (na2 : NA K a (ns.map V.int) n.st) (na3 : NA K a (ns.map V.int) n.sh)
    (d1 : n.sd ≠ sds) (d2 : n.st ≠ sds) (d3 : n.sh ≠ sds) (f1 : H n.sd = none) (f2 : H n.st = none) (f3 : H n.sh = none) (k : ∀ b o, H b = some o → b ≠ sds → H' b = some o) : SidesAt K C a ns H' sds (l ++ [n]) := by
  have old : ∀ x ∈ l, x.sd ≠ n.sd ∧ x.st ≠ n.st ∧ x.sh ≠ n.sh := fun x hx => ⟨((L.each x hx).1.fresh f1).1, ((L.each x hx).1.fresh f2).2.1, ((L.each x hx).1.fresh f3).2.2⟩
  refine ⟨fun x hx => ?_, fun i j x y hx hy hij => ?_, L.na⟩
  · rcases List.mem_append.mp hx with q | q
    · obtain ⟨e0, e1, e2, e3, e4, e5, e6⟩ := L.each x q
      refine ⟨e0.keep fun b o hb _ e => k b o e ?_, e1, e2, e3, e4, e5, e6⟩
      rcases hb with rfl | rfl | rfl
      · exact e4
      · exact e5
      · exact e6
    · rw [List.mem_singleton.mp q]
      exact ⟨h, na1, na2, na3, d1, d2, d3⟩
  · by_cases hi : i < l.length
    · rw [List.getElem?_append_left hi] at hx
      by_cases hj : j < l.length
      · rw [List.getElem?_append_left hj] at hy
        exact L.apart i j x y hx hy hij
      · rw [List.getElem?_append_right (by omega)] at hy
        have ey : y = n := by
          have := List.mem_of_getElem? hy
          exact List.mem_singleton.mp this
        rw [ey]
        exact old x (List.mem_of_getElem? hx)
    · rw [List.getElem?_append_right (by omega)] at hx
      have ex : x = n := List.mem_singleton.mp (List.mem_of_getElem? hx)
      by_cases hj : j < l.length
      · rw [List.getElem?_append_left hj] at hy
        obtain ⟨o1, o2, o3⟩ := old y (List.mem_of_getElem? hy)
        rw [ex]
        exact ⟨o1.symm, o2.symm, o3.symm⟩
      · rw [List.getElem?_append_right (by omega)] at hy
        have h1 := (List.getElem?_eq_some_iff.mp hx).1
        have h2 := (List.getElem?_eq_some_iff.mp hy).1
        rw [List.length_singleton] at h1 h2
        omega
theorem SideAt.cross {C : Addr} {H : Hp} {sd st sh sd2 st2 sh2 : Addr} {wh wh2 : Int} {ss ss2 : List Int} (h : SideAt C H sd st sh wh ss) (g : SideAt C H sd2 st2 sh2 wh2 ss2) : sd2 ≠ sh ∧ sd2 ≠ st ∧ st2 ≠ sd ∧ st2 ≠ sh ∧ sh2 ≠ sd ∧ sh2 ≠ st := by
  have two : ∀ {sd st sh sd2 st2 sh2 : Addr} {wh wh2 : Int} {ss ss2 : List Int}, SideAt C H sd st sh wh ss → SideAt C H sd2 st2 sh2 wh2 ss2 → sd2 ≠ sh ∧ sd2 ≠ st ∧ sh2 ≠ st := fun {sd st sh sd2 st2 sh2 wh wh2 ss ss2} h g => by
    obtain ⟨dx, e⟩ := h.st
    refine ⟨fun z => ?_, fun z => ?_, fun z => ?_⟩
    · have e1 := g.sd
      rw [z, h.sh] at e1
      have e2 := HO.lst.inj (Option.some.inj e1)
      cases ss with
      | nil => cases e2
      | cons x r =>
        rw [List.map_cons] at e2
        injection e2 with e3 _
        cases e3
    · rw [← z, g.sd] at e
      cases e
    · rw [← z, g.sh] at e
      cases e
  obtain ⟨a1, a2, a3⟩ := two h g
  obtain ⟨b1, b2, b3⟩ := two g h
  exact ⟨a1, a2, fun z => b2 z.symm, fun z => b3 z.symm, fun z => b1 z.symm, a3⟩
theorem SidesAt.step {K : PySem.W.Frag} {C p a : Addr} {ns : List Int} {H H' : Hp} {sds : Addr} {l : List Side} (L : SidesAt K C a ns H sds l) (S : StAt K p a ns H) {j : Nat} {x : Side} (hx : l[j]? = some x) (x' : Side) (h1 : x'.sd = x.sd) (h2 : x'.st = x.st) (h3 : x'.sh = x.sh)
    (D : SideAt C H' x'.sd x'.st x'.sh x'.wh x'.ss) (fr : ∀ b o, H b = some o → b ≠ p → b ≠ x.sd → b ≠ x.sh → b ≠ x.st → (∀ ps, o ≠ .tbl ps) → H' b = some o) : SidesAt K C a ns H' sds (l.set j x') := by
  have hj := (List.getElem?_eq_some_iff.mp hx).1
  have X := L.each x (List.mem_of_getElem? hx)
  have at_ : ∀ (i : Nat) (y : Side), (l.set j x')[i]? = some y → (i = j ∧ y = x') ∨ (i ≠ j ∧ l[i]? = some y) := fun i y hy => by
    rw [List.getElem?_set] at hy
    by_cases e : j = i
    · rw [if_pos e] at hy
      subst e
      rw [if_pos hj] at hy
      exact .inl ⟨rfl, (Option.some.inj hy).symm⟩
    · rw [if_neg e] at hy
      exact .inr ⟨fun z => e z.symm, hy⟩
  refine ⟨fun y hy => ?_, fun i k y z hy hz hik => ?_, L.na⟩
  · obtain ⟨i, hi⟩ := List.getElem?_of_mem hy
    rcases at_ i y hi with ⟨_, rfl⟩ | ⟨n, hi⟩
    · obtain ⟨_, e1, e2, e3, e4, e5, e6⟩ := X
      exact ⟨D, by rw [h1]; exact e1, by rw [h2]; exact e2, by rw [h3]; exact e3, by rw [h1]; exact e4, by rw [h2]; exact e5, by rw [h3]; exact e6⟩
    · have Y := L.each y (List.mem_of_getElem? hi)
      obtain ⟨n1, n2, n3⟩ := L.apart i j y x hi hx n
      obtain ⟨c1, c2, c3, c4, c5, c6⟩ := X.1.cross Y.1
      obtain ⟨q1, q2, q3⟩ := Y.1.nep S
      refine ⟨Y.1.keep fun b o hb no e => ?_, Y.2⟩
      rcases hb with rfl | rfl | rfl
      · exact fr _ _ e q1 n1 c1 c2 no
      · exact fr _ _ e q2 c3 c4 n2 no
      · exact fr _ _ e q3 c5 n3 c6 no
  · rcases at_ i y hy with ⟨rfl, rfl⟩ | ⟨n, hi⟩
    · rcases at_ k z hz with ⟨rfl, _⟩ | ⟨m, hk⟩
      · exact absurd rfl hik
      · rw [h1, h2, h3]
        exact L.apart _ k x z hx hk hik
    · rcases at_ k z hz with ⟨rfl, rfl⟩ | ⟨m, hk⟩
      · rw [h1, h2, h3]
        exact L.apart i _ y x hi hx hik
      · exact L.apart i k y z hi hk hik
theorem sds_set {l : List Side} {j : Nat} {x : Side} (hx : l[j]? = some x) (x' : Side) (h1 : x'.sd = x.sd) : (l.set j x').map (fun x => V.ref x.sd) = l.map fun x => V.ref x.sd := by
  rw [List.map_set, h1]
  refine List.ext_getElem? fun i => ?_
  rw [List.getElem?_set]
  by_cases e : j = i
  · subst e
    have hj := (List.getElem?_eq_some_iff.mp hx).1
    rw [if_pos rfl, List.length_map, if_pos hj, List.getElem?_map, hx]
    rfl
  · rw [if_neg e]
theorem cut_take {xs : List Int} {j : Nat} (hj : j ≤ xs.length) : cutV (xs.map V.int) none (some (j : Int)) = (xs.take j).map V.int := by
  unfold cutV
  rw [HT.sIx_none, HT.sIx_nat, List.length_map, Nat.min_eq_left hj, List.drop_zero, Nat.sub_zero, List.map_take]
theorem cut_drop {xs : List Int} {j : Nat} (hj : j ≤ xs.length) : cutV (xs.map V.int) (some (j : Int)) none = (xs.drop j).map V.int := by
  unfold cutV
  rw [HT.sIx_none, HT.sIx_nat, List.length_map, Nat.min_eq_left hj, List.map_drop]
  exact List.take_of_length_le (by rw [List.length_drop, List.length_map]; exact Nat.le_refl _)
end Cm
namespace K07
open PySem PySem.Spec PyProof.Rows L2 Cm
def topS (i : Nat) : Stmt := PySem.Challenge.pw_pulseshare_k07_streams.main.body.getD i (.Pass ⟨0, 0, 0, 0⟩)
abbrev sInit : Stmt := inClass (topS 11) 0
abbrev sNext : Stmt := inClass (topS 11) 1
abbrev sRest : Stmt := inClass (topS 11) 2
abbrev sPuls : Stmt := inClass (topS 11) 3
abbrev sPulsed : Stmt := topS 12
abbrev sStart : Stmt := topS 14
abbrev sDrawn : Stmt := topS 15
abbrev sSame : Stmt := topS 16
abbrev sKind : Stmt := topS 17
abbrev sFar : Stmt := topS 18
abbrev sBeat : Stmt := topS 19
abbrev sLaw : Stmt := topS 20
/-- the suite of the one try that a body is -/
def suiteOf (b : List Stmt) : List Stmt := match b with
  | [.Try _ [.ExceptHandler _ _ suite _] _ _ _] => suite
  | _ => []
theorem scStart : FnScope ["_law_script", "_law_mixed", "_law_cell"] ["_law_script"] (defScope sStart) := ⟨rfl, rfl, rfl, by decide +kernel, rfl, by decide +kernel, by decide +kernel⟩
theorem scDrawn : FnScope ["_law_state", "_law_many", "_law_found", "_law_cell"] ["_law_state", "_law_many"] (defScope sDrawn) := ⟨rfl, rfl, rfl, by decide +kernel, rfl, by decide +kernel, by decide +kernel⟩
theorem scSame : FnScope ["_law_found", "_law_due", "_law_k"] ["_law_found", "_law_due"] (defScope sSame) := ⟨rfl, rfl, rfl, by decide +kernel, rfl, by decide +kernel, by decide +kernel⟩
theorem scKind : FnScope ["_law_work", "e", "_law_kinds", "_law_words", "_law_word"] ["_law_work"] (defScope sKind) := ⟨rfl, rfl, rfl, by decide +kernel, rfl, by decide +kernel, by decide +kernel⟩
theorem scFar : FnScope ["_law_state", "_law_least", "_law_most", "_law_far_here"] ["_law_state", "_law_least", "_law_most"] (defScope sFar) := ⟨rfl, rfl, rfl, by decide +kernel, rfl, by decide +kernel, by decide +kernel⟩
theorem scInit : FnScope ["self", "whole"] ["self", "whole"] (defScope sInit) := ⟨rfl, rfl, rfl, by decide +kernel, rfl, by decide +kernel, by decide +kernel⟩
theorem scNext : FnScope ["self", "share"] ["self", "share"] (defScope sNext) := ⟨rfl, rfl, rfl, by decide +kernel, rfl, by decide +kernel, by decide +kernel⟩
theorem scRest : FnScope ["self"] ["self"] (defScope sRest) := ⟨rfl, rfl, rfl, by decide +kernel, rfl, by decide +kernel, by decide +kernel⟩
theorem scPuls : FnScope ["self"] ["self"] (defScope sPuls) := ⟨rfl, rfl, rfl, by decide +kernel, rfl, by decide +kernel, by decide +kernel⟩
theorem scPulsed : FnScope ["whole", "shares", "stream", "told", "share"] ["whole", "shares"] (defScope sPulsed) := ⟨rfl, rfl, rfl, by decide +kernel, rfl, by decide +kernel, by decide +kernel⟩
theorem scBeat : FnScope ["_law_state", "_law_side", "_law_whole", "_law_so_far", "_law_shares", "_law_share", "_law_odd", "_law_stream"] ["_law_state", "_law_side"] (defScope sBeat) := ⟨rfl, rfl, rfl, by decide +kernel, rfl, by decide +kernel, by decide +kernel⟩
theorem scLaw : FnScope ["_law_script", "_law_state", "_law_sides", "_law_k", "_law_turn", "_law_stream", "_law_so_far", "_law_shares", "_law_due", "_law_handed", "_law_again", "_law_found", "_law_at", "_law_bad", "_law_none", "_law_whole"] ["_law_script"] (defScope sLaw) := ⟨rfl, rfl, rfl, by decide +kernel, rfl, by decide +kernel, by decide +kernel⟩
/-- the name of the lambdas in the law -/
def lamQ : Str := (envOfC "law" (defScope sLaw) 0 0 .none).qual ++ "<lambda>"
/-- the name of the lambda in the beat -/
def beatQ : Str := (envOfC "_law_beat" (defScope sBeat) 0 0 .none).qual ++ "<lambda>"
section
variable {P : Program} {w : World} {K : PySem.W.Frag} {mg : Str → Option Value} {base : Heap}
theorem ok_start {f : Addr} {fd : FuncData} (F : Fun K "_law_start" "_law_start" sStart f fd) : FnOk P w K mg base CX0 1 f fd ["_law_script"] (spStart K) := by
  refine F.ok scStart (fun vs H Q E h => ?_) (fun cdv A outer s H vs Q E hr h => ?_)
  · obtain ⟨a, ns, rfl, _⟩ := h
    rfl
  · obtain ⟨a, ns, rfl, hS, q⟩ := h
    refine ⟨_, pss_cons (ps_set (i := 1) scStart.nd rfl (.inl rfl) pe_int)
      (pss_cons (ps_for PassesOwn.never rfl (pi_list (pv 0)) (pg_name (i := 2) scStart.nd rfl (.inl rfl))
        (pss_one (ps_set (i := 1) scStart.nd rfl (.inl rfl) (pe_op op_mod (pe_op op_add (pe_op op_add (pe_op op_mul (pv 1) pe_int) (pv 2)) pe_int) pe_int))))
      (pss_one (ps_ret (pe_lst (pa_cons (pv 0) (pa_cons pe_int (pa_cons (pv 1) (pa_cons pe_int pa_nil)))))))), ?_⟩
    refine ⟨_, rfl, a, rfl, ⟨_, hS⟩, for_list (K := K) (a := a) (xs := ns.map V.int) (fun i σ H' => ∃ (m : Int) (v : Option V), σ = [some (.ref a), some (.int m), v] ∧ 0 ≤ m ∧ m < 2147483647 ∧ H' = H)
      ⟨1, none, rfl, by decide, by decide, rfl⟩ (fun i σ H' _ ⟨_, _, _, _, _, e⟩ => by rw [e]; exact hS) ?_ ?_⟩
    · rintro i y σ H' hi ⟨m, v, rfl, h0, h1, rfl⟩
      obtain ⟨z, hz, rfl⟩ := int_at hi
      refine ⟨_, rfl, _, _, rfl, rfl, .inl ⟨by omega, by omega⟩, _, rfl, _, _, rfl, rfl, _, _, rfl, rfl, _, _, rfl, rfl, (by show (0 : Int) < 2147483647; decide), ?_⟩
      exact ⟨_, _, rfl, (mod_lt (by decide)).1, (mod_lt (by decide)).2, rfl⟩
    · rintro σ H' ⟨m, v, rfl, h0, h1, rfl⟩
      refine ⟨_, rfl, _, rfl, (by show 4 ≤ sizeLine; decide), fun p hp => ?_⟩
      exact q _ p (same_upd hp) hp ⟨0, m, 0, upd_same, by decide, h0, h1, by decide, (same_upd hp).seq hS, NA.of hS hp⟩
theorem ok_drawn {f : Addr} {fd : FuncData} (F : Fun K "_law_drawn" "_law_drawn" sDrawn f fd) (ml : mg "len" = none) : FnOk P w K mg base CX0 1 f fd ["_law_state", "_law_many"] (spDrawn K) := by
  refine F.ok scDrawn (fun vs H Q E h => ?_) (fun cdv A outer s H vs Q E hr h => ?_)
  · obtain ⟨p, a, ns, many, rfl, _⟩ := h
    rfl
  · obtain ⟨p, a, ns, many, rfl, ⟨c, m, l, hp, hc, hm0, hm1, hl, hS⟩, h0, hb, q⟩ := h
    refine ⟨_, pss_cons (ps_if (pt_cmpR op_gt (pe_ix ix_list (pv 0) pe_int (fun _ _ => rfl)) pe_int (nomark _))
        (pss_cons (ps_set (i := 2) scDrawn.nd rfl (.inl rfl) (pe_op op_mod (pe_ix ix_list (pv 0) pe_int (fun _ _ => rfl)) (pv 1)))
        (pss_cons (ps_asg (pe_op op_fdivW (pe_ix ix_list (pv 0) pe_int (fun _ _ => rfl)) (pv 1)) (pg_sub (pv 0) pe_int set_list))
        (pss_one (ps_ret (pv 2))))) pss_nil)
      (pss_cons (ps_asg (pe_op op_add (pe_ix ix_list (pv 0) pe_int (fun _ _ => rfl)) pe_int) (pg_sub (pv 0) pe_int set_list))
      (pss_cons (ps_if (pt_cmpR op_le (pe_ix ix_list (pv 0) pe_int (fun _ _ => rfl)) (pe_callB call_len_seq (by rfl) ml PySem.boot_len (pa_cons (pe_ix ix_list (pv 0) pe_int (fun _ _ => rfl)) pa_nil)) (nomark _))
         (pss_cons (ps_set (i := 3) scDrawn.nd rfl (.inl rfl) (pe_ix ix_list (pe_ix ix_list (pv 0) pe_int (fun _ _ => rfl)) (pe_op op_sub (pe_ix ix_list (pv 0) pe_int (fun _ _ => rfl)) pe_int) (fun _ _ => rfl)))
         (pss_cons (ps_asg (pe_ifExp (pt_cmpR op_ge (pv 3) (pe_op op_pow pe_int pe_int) (nomark _)) (pe_op op_fdivW (pv 3) (pv 1)) pe_int) (pg_sub (pv 0) pe_int set_list))
         (pss_one (ps_ret (pe_op op_mod (pv 3) (pv 1)))))) pss_nil)
      (pss_cons (ps_asg (pe_op op_mod (pe_op op_add (pe_op op_mul (pe_ix ix_list (pv 0) pe_int (fun _ _ => rfl)) pe_int) pe_int) pe_int) (pg_sub (pv 0) pe_int set_list))
      (pss_one (ps_ret (pe_op op_mod (pe_op op_fdiv (pe_ix ix_list (pv 0) pe_int (fun _ _ => rfl)) pe_int) (pv 1))))))), ?_⟩
    have hcd : CDivW l many := wide_div h0 hb (by decide) (by decide)
    refine ⟨_, rfl, p, _, _, _, rfl, rfl, SqL.of hp, atI_nat (j := 3) rfl, _, _, rfl, rfl, _, rfl, ite2 (fun e => ?_) (fun e => ?_)⟩
    · -- the rest of a great cell
      refine ⟨_, rfl, p, _, _, _, rfl, rfl, SqL.of hp, atI_nat (j := 3) rfl, _, rfl, _, _, rfl, rfl, h0, ?_⟩
      refine ⟨_, rfl, p, _, _, _, rfl, rfl, SqL.of hp, atI_nat (j := 3) rfl, _, rfl, _, _, rfl, rfl, hcd, _, rfl, p, _, _, 3, rfl, rfl, hp, rfl, ?_⟩
      refine ⟨_, rfl, q _ _ But.upd ⟨c, m, l / many, upd_same, hc, hm0, hm1, Int.ediv_nonneg hl (by omega), hS.but But.upd hp⟩ (mod_lt h0).1 (mod_lt h0).2⟩
    · -- the next cell
      refine ⟨_, rfl, p, _, _, _, rfl, rfl, SqL.of hp, atI_nat (j := 1) rfl, _, _, rfl, rfl, _, rfl, p, _, _, 1, rfl, rfl, hp, rfl, ?_⟩
      have hp1 : (upd H p (.lst (stV a (c + 1) m l))) p = some (.lst (stV a (c + 1) m l)) := upd_same
      have hS1 : SqL K (upd H p (.lst (stV a (c + 1) m l))) a (ns.map V.int) := (hS.but But.upd hp).seq
      refine ⟨_, rfl, p, _, _, _, rfl, rfl, SqL.of hp1, atI_nat (j := 1) rfl, _, rfl, p, _, _, _, rfl, rfl, SqL.of hp1, atI_nat (j := 0) rfl, a, _, rfl, .inl hS1, _, _, rfl, rfl, _, rfl, ite2 (fun e1 => ?_) (fun e1 => ?_)⟩
      · have e2 : c + 1 ≤ ((ns.map V.int).length : Int) := of_decide_eq_true e1
        rw [List.length_map] at e2
        obtain ⟨j, rfl⟩ : ∃ j : Nat, c = (j : Int) := ⟨c.toNat, by omega⟩
        have hj : j < ns.length := by omega
        have g : (ns.map V.int)[j]? = some (V.int ns[j]) := by
          rw [List.getElem?_map, List.getElem?_eq_getElem hj]
          rfl
        refine ⟨_, rfl, p, _, _, _, rfl, rfl, SqL.of hp1, atI_nat (j := 0) rfl, _, rfl, p, _, _, _, rfl, rfl, SqL.of hp1, atI_nat (j := 1) rfl, _, _, rfl, rfl, a, _, _, _, rfl, rfl, hS1, (by rw [show (j : Int) + 1 - 1 = (j : Int) by omega]; exact atI_nat g), ?_⟩
        refine ⟨_, rfl, _, _, rfl, rfl, ⟨by decide, by decide, by decide⟩, _, _, rfl, rfl, _, rfl, ite2 (fun e3 => ?_) (fun e3 => ?_)⟩
        · have e4 : (10 : Int) ^ ((18 : Int).toNat) ≤ ns[j] := of_decide_eq_true e3
          have e5 : 0 ≤ ns[j] := Int.le_trans (by decide) e4
          refine ⟨_, rfl, _, rfl, _, _, rfl, rfl, wide_div h0 hb (by decide) (by decide), _, rfl, p, _, _, 3, rfl, rfl, hp1, rfl, ?_⟩
          rw [upd_upd]
          refine ⟨_, rfl, _, rfl, _, _, rfl, rfl, h0, q _ _ But.upd ⟨_, m, _, upd_same, by omega, hm0, hm1, Int.ediv_nonneg e5 (by omega), hS.but But.upd hp⟩ (mod_lt h0).1 (mod_lt h0).2⟩
        · refine ⟨_, rfl, p, _, _, 3, rfl, rfl, hp1, rfl, ?_⟩
          rw [upd_upd]
          refine ⟨_, rfl, _, rfl, _, _, rfl, rfl, h0, q _ _ But.upd ⟨_, m, 0, upd_same, by omega, hm0, hm1, by decide, hS.but But.upd hp⟩ (mod_lt h0).1 (mod_lt h0).2⟩
      · refine ⟨_, rfl, p, _, _, _, rfl, rfl, SqL.of hp1, atI_nat (j := 2) rfl, _, _, rfl, rfl, .inl ⟨by omega, by omega⟩, _, _, rfl, rfl, _, _, rfl, rfl, (by show (0 : Int) < 2147483647; decide), _, rfl, p, _, _, 2, rfl, rfl, hp1, rfl, ?_⟩
        rw [upd_upd]
        refine ⟨_, rfl, p, _, _, _, rfl, rfl, SqL.of upd_same, atI_nat (j := 2) rfl, _, _, rfl, rfl, ⟨by decide, by decide⟩, _, rfl, _, _, rfl, rfl, h0, q _ _ But.upd ⟨_, _, l, upd_same, by omega, (mod_lt (by decide)).1, (mod_lt (by decide)).2, hl, hS.but But.upd hp⟩ (mod_lt h0).1 (mod_lt h0).2⟩
theorem flat_body {f : Addr} {fd : FuncData} (F : Fun K "_law_same" "_law_same" sSame f fd) (mI : mg "isinstance" = none) (mT : mg "tuple" = none) (mL : mg "list" = none) (mS : mg "str" = none) (mB : mg "bool" = none) (mi : mg "int" = none)
    (cdv : Value) (A : Around) (outer : List Env) (s : Shared) (H : Hp) (vs : List V) (Q : VK) (E : XK) (h : spFlat vs H Q E) :
    ∃ t, PSs (cxOf CX0 P w K mg base ["_law_found", "_law_due", "_law_k"] "_law_same" (defScope sSame) f cdv A outer s H E).nox (defBody sSame) t ∧ t { nx := fun _ H' => Q .non H', rt := Q } (start ["_law_found", "_law_due", "_law_k"] vs) H := by
  obtain ⟨x, rfl, hx, q⟩ := h
  refine ⟨_, pss_cons (ps_if (pt_val (pe_callB call_isiT (by rfl) mI boot_isinstance (pa_cons (pv 1) (pa_cons (pe_tup (pa_cons (pe_bltn (v := .ty "tuple") (by rfl) mT PyProof.Rows.boot_tuple rfl) (pa_cons (pe_bltn (v := .ty "list") (by rfl) mL PyProof.Rows.boot_list rfl) pa_nil))) pa_nil)))) pss_never pss_nil)
    (pss_cons (ps_if (pt_cmpR op_isN (pv 1) pe_non (nomark _)) (pss_one (ps_ret (pe_cmpR op_isN (pv 0) pe_non (nomark _)))) pss_nil)
    (pss_cons (ps_if (pt_val (pe_callB call_isi (by rfl) mI boot_isinstance (pa_cons (pv 1) (pa_cons (pe_bltn (v := .ty "str") (by rfl) mS (by decide +kernel) rfl) pa_nil))))
      (pss_one (ps_ret (pe_and (pe_callB call_isi (by rfl) mI boot_isinstance (pa_cons (pv 0) (pa_cons (pe_bltn (v := .ty "str") (by rfl) mS (by decide +kernel) rfl) pa_nil))) (pe_one (pe_cmpR op_eq (pv 0) (pv 1) (nomark _)))))) pss_nil)
    (pss_cons (ps_if (PW.pt (pw_or (pt_val (pe_callB call_isi (by rfl) mI boot_isinstance (pa_cons (pv 1) (pa_cons (pe_bltn (v := .ty "bool") (by rfl) mB (by decide +kernel) rfl) pa_nil)))) (pw_or1 (pt_val (pe_callB call_isi (by rfl) mI boot_isinstance (pa_cons (pv 0) (pa_cons (pe_bltn (v := .ty "bool") (by rfl) mB (by decide +kernel) rfl) pa_nil)))))))
      (pss_one (ps_ret (pe_and (pe_callB call_isi (by rfl) mI boot_isinstance (pa_cons (pv 1) (pa_cons (pe_bltn (v := .ty "bool") (by rfl) mB (by decide +kernel) rfl) pa_nil))) (pe_and (pe_callB call_isi (by rfl) mI boot_isinstance (pa_cons (pv 0) (pa_cons (pe_bltn (v := .ty "bool") (by rfl) mB (by decide +kernel) rfl) pa_nil))) (pe_one (pe_cmpR op_eq (pv 0) (pv 1) (nomark _))))))) pss_nil)
    (pss_one (ps_ret (pe_and (pe_callB call_isi (by rfl) mI boot_isinstance (pa_cons (pv 0) (pa_cons (pe_bltn (v := .ty "int") (by rfl) mi (by decide +kernel) rfl) pa_nil))) (pe_one (pe_cmpR op_eq (pv 0) (pv 1) (nomark _))))))))), ?_⟩
  refine ⟨_, rfl, (by show 2 ≤ sizeLine; decide), fun t nt => ?_⟩
  have s0 : Same H (upd H t (.tup [.ty "tuple", .ty "list"])) := same_upd nt
  have fin := q _ s0
  have two : Paired ClsV [.ty "tuple", .ty "list"] [.type "tuple", .type "list"] := .cons (.ty _) (.cons (.ty _) .nil)
  have no2 : ∀ a : String, kitB a "tuple" = some false → kitB a "list" = some false → PySem.W.kitAny K (.type a) [.type "tuple", .type "list"] = some false := fun a h1 h2 => kitAny_cons (kit_ty h1) (fun _ => kitAny_cons (kit_ty h2) (fun _ => kitAny_nil) (fun z => nomatch z)) (fun z => nomatch z)
  cases hx with
  | int i =>
    refine ⟨_, t, _, _, _, _, rfl, upd_same, two, .base (.int i), no2 "int" (by decide +kernel) (by decide +kernel), false, rfl, iteF ?_⟩
    refine ⟨_, rfl, rfl, _, rfl, iteF ?_⟩
    refine ⟨_, rfl, _, _, _, _, _, rfl, .ty _, .base (.int i), kit_ty (r := false) (by decide +kernel), _, rfl, iteF ?_⟩
    refine ⟨_, rfl, _, _, _, _, _, rfl, .ty _, .base (.int i), kit_ty (r := false) (by decide +kernel), _, rfl, iteF ?_⟩
    refine ⟨_, rfl, _, _, _, _, _, rfl, .ty _, .base (.int i), kit_ty (r := false) (by decide +kernel), _, rfl, iteF ?_⟩
    refine ⟨_, rfl, _, _, _, _, _, rfl, .ty _, .base (.int i), kit_ty (r := true) (by decide +kernel), _, rfl, iteT ?_⟩
    refine ⟨_, rfl, _, rfl, rfl, ?_⟩
    rw [decide_eq_true rfl]
    exact fin
  | bl c =>
    refine ⟨_, t, _, _, _, _, rfl, upd_same, two, .base (.bl c), no2 "bool" (by decide +kernel) (by decide +kernel), false, rfl, iteF ?_⟩
    refine ⟨_, rfl, rfl, _, rfl, iteF ?_⟩
    refine ⟨_, rfl, _, _, _, _, _, rfl, .ty _, .base (.bl c), kit_ty (r := false) (by decide +kernel), _, rfl, iteF ?_⟩
    refine ⟨_, rfl, _, _, _, _, _, rfl, .ty _, .base (.bl c), kit_ty (r := true) (by decide +kernel), _, rfl, iteT (iteT ?_)⟩
    refine ⟨_, rfl, _, _, _, _, _, rfl, .ty _, .base (.bl c), kit_ty (r := true) (by decide +kernel), _, rfl, iteT ?_⟩
    refine ⟨_, rfl, _, _, _, _, _, rfl, .ty _, .base (.bl c), kit_ty (r := true) (by decide +kernel), _, rfl, iteT ?_⟩
    refine ⟨_, rfl, _, rfl, rfl, ?_⟩
    rw [decide_eq_true rfl]
    exact fin
  | non =>
    refine ⟨_, t, _, _, _, _, rfl, upd_same, two, .base .non, no2 "NoneType" (by decide +kernel) (by decide +kernel), false, rfl, iteF ?_⟩
    refine ⟨_, rfl, rfl, _, rfl, iteT ?_⟩
    exact ⟨_, rfl, rfl, fin⟩
  | str z =>
    refine ⟨_, t, _, _, _, _, rfl, upd_same, two, .base (.str z), no2 "str" (by decide +kernel) (by decide +kernel), false, rfl, iteF ?_⟩
    refine ⟨_, rfl, rfl, _, rfl, iteF ?_⟩
    refine ⟨_, rfl, _, _, _, _, _, rfl, .ty _, .base (.str z), kit_ty (r := true) (by decide +kernel), _, rfl, iteT ?_⟩
    refine ⟨_, rfl, _, _, _, _, _, rfl, .ty _, .base (.str z), kit_ty (r := true) (by decide +kernel), _, rfl, iteT ?_⟩
    refine ⟨_, rfl, _, rfl, rfl, ?_⟩
    rw [decide_eq_true rfl]
    exact fin
theorem ok_flat {f : Addr} {fd : FuncData} (F : Fun K "_law_same" "_law_same" sSame f fd) (mI : mg "isinstance" = none) (mT : mg "tuple" = none) (mL : mg "list" = none) (mS : mg "str" = none) (mB : mg "bool" = none) (mi : mg "int" = none) :
    FnOk P w K mg base CX0 1 f fd ["_law_found", "_law_due"] spFlat := by
  refine F.ok scSame (fun vs H Q E h => ?_) (fun cdv A outer s H vs Q E hr h => flat_body F mI mT mL mS mB mi cdv A outer s H vs Q E h)
  obtain ⟨x, rfl, _⟩ := h
  rfl
theorem ok_same {f : Addr} {fd : FuncData} (F : Fun K "_law_same" "_law_same" sSame f fd) (bS : Binds K fd ["_law_found", "_law_due"] []) (gS : mg "_law_same" = some (.ref f)) (mI : mg "isinstance" = none) (mT : mg "tuple" = none) (mL : mg "list" = none) (mS : mg "str" = none) (mB : mg "bool" = none) (mi : mg "int" = none) (ml : mg "len" = none) (mr : mg "range" = none) :
    FnOk P w K mg base CX0 2 f fd ["_law_found", "_law_due"] (spSame K) := by
  have GF : FnOk P w K mg base CX0 1 f fd ["_law_found", "_law_due"] spFlat := ok_flat F mI mT mL mS mB mi
  have two : Paired ClsV [.ty "tuple", .ty "list"] [.type "tuple", .type "list"] := .cons (.ty _) (.cons (.ty _) .nil)
  have kL : PySem.W.kitAny K (.type "list") [.type "tuple", .type "list"] = some true := kitAny_cons (kit_ty (r := false) (by decide +kernel)) (fun _ => kitAny_cons (kit_ty (r := true) (by decide +kernel)) (fun z => nomatch z) (fun _ => rfl)) (fun z => nomatch z)
  have kT : PySem.W.kitAny K (.type "tuple") [.type "tuple", .type "list"] = some true := kitAny_cons (kit_ty (r := true) (by decide +kernel)) (fun z => nomatch z) (fun _ => rfl)
  have no2 : ∀ a : String, kitB a "tuple" = some false → kitB a "list" = some false → PySem.W.kitAny K (.type a) [.type "tuple", .type "list"] = some false := fun a h1 h2 => kitAny_cons (kit_ty h1) (fun _ => kitAny_cons (kit_ty h2) (fun _ => kitAny_nil) (fun z => nomatch z)) (fun z => nomatch z)
  refine F.ok scSame (fun vs H Q E h => ?_) (fun cdv A outer s H vs Q E hr h => ?_)
  · obtain ⟨x, y, rfl, _⟩ := h
    rfl
  · obtain ⟨x, y, rfl, hx, q⟩ := h
    by_cases hf : x = y ∧ Flat x
    · obtain ⟨rfl, hf⟩ := hf
      obtain ⟨t, ht, hq⟩ := flat_body (P := P) (w := w) (base := base) F mI mT mL mS mB mi cdv A outer s H [x, x] Q E ⟨x, rfl, hf, q⟩
      exact ⟨t, ht, hq⟩
    · refine ⟨_, pss_cons (ps_if (pt_val (pe_callB call_isiT (by rfl) mI boot_isinstance (pa_cons (pv 1) (pa_cons (pe_tup (pa_cons (pe_bltn (v := .ty "tuple") (by rfl) mT PyProof.Rows.boot_tuple rfl) (pa_cons (pe_bltn (v := .ty "list") (by rfl) mL PyProof.Rows.boot_list rfl) pa_nil))) pa_nil))))
        (pss_cons (ps_if (PW.pt (pw_or (pt_not (pt_val (pe_callB call_isiT (by rfl) mI boot_isinstance (pa_cons (pv 0) (pa_cons (pe_tup (pa_cons (pe_bltn (v := .ty "tuple") (by rfl) mT PyProof.Rows.boot_tuple rfl) (pa_cons (pe_bltn (v := .ty "list") (by rfl) mL PyProof.Rows.boot_list rfl) pa_nil))) pa_nil)))))
            (pw_or1 (pt_cmpR op_ne (pe_callB call_isi (by rfl) mI boot_isinstance (pa_cons (pv 0) (pa_cons (pe_bltn (v := .ty "list") (by rfl) mL PyProof.Rows.boot_list rfl) pa_nil))) (pe_callB call_isi (by rfl) mI boot_isinstance (pa_cons (pv 1) (pa_cons (pe_bltn (v := .ty "list") (by rfl) mL PyProof.Rows.boot_list rfl) pa_nil))) (nomark _)))))
          (pss_one (ps_ret pe_bl)) pss_nil)
        (pss_cons (ps_if (pt_cmpR op_ne (pe_callB call_len_seq (by rfl) ml PySem.boot_len (pa_cons (pv 0) pa_nil)) (pe_callB call_len_seq (by rfl) ml PySem.boot_len (pa_cons (pv 1) pa_nil)) (nomark _)) (pss_one (ps_ret pe_bl)) pss_nil)
        (pss_one (ps_ret (pe_cmpR (op_eqD hr.units) (pe_lc (own := [("_law_k", 2)]) (g := gName 2) rfl scSame.nd (pi_range1 rfl mr (pa_cons (pe_callB call_len_seq (by rfl) ml PySem.boot_len (pa_cons (pv 1) pa_nil)) pa_nil)) (blkOk_by (own := [("_law_k", 2)]) (N := ["_law_found", "_law_due", "_law_k"]) (sc := defScope sSame) (by decide +kernel))
            (fun _ _ _ _ _ => pg_name (i := 2) scSame.nd rfl (Or.inl rfl)) (fun _ _ _ _ _ => pts_one (pt_not (pt_val (pe_call GF hr (by rfl) gS F.kp bS .nil pass0 (pa_cons (pe_ix (r := rIx K) ix_seq (pv 0) (pv 2) (fun _ _ => rfl)) (pa_cons (pe_ix (r := rIx K) ix_seq (pv 1) (pv 2) (fun _ _ => rfl)) pa_nil)))))) (fun _ _ _ _ _ => pv 2)) (pe_lst pa_nil) (nomark _)))))) pss_nil)
        pss_never, ?_⟩
      refine ⟨_, rfl, (by show 2 ≤ sizeLine; decide), fun t nt => ?_⟩
      have s0 : Same H (upd H t (.tup [.ty "tuple", .ty "list"])) := same_upd nt
      have t0 : (upd H t (.tup [.ty "tuple", .ty "list"])) t = some (.tup [.ty "tuple", .ty "list"]) := upd_same
      generalize upd H t (.tup [.ty "tuple", .ty "list"]) = H1 at s0 t0
      cases hx with
      | flat h => exact absurd ⟨rfl, h⟩ hf
      | @lst p1 p2 xs hp hq hfl hl =>
        have hp1 := s0 _ _ hp
        have hq1 := s0 _ _ hq
        refine ⟨_, t, _, _, _, _, rfl, t0, two, .base (.lst hq1), kL, true, rfl, iteT ?_⟩
        refine ⟨_, rfl, (by show 2 ≤ sizeLine; decide), fun t2 nt2 => ?_⟩
        have s2 : Same H1 (upd H1 t2 (.tup [.ty "tuple", .ty "list"])) := same_upd nt2
        have t20 : (upd H1 t2 (.tup [.ty "tuple", .ty "list"])) t2 = some (.tup [.ty "tuple", .ty "list"]) := upd_same
        generalize upd H1 t2 (.tup [.ty "tuple", .ty "list"]) = H2 at s2 t20
        have hp2 := s2 _ _ hp1
        have hq2 := s2 _ _ hq1
        refine ⟨_, t2, _, _, _, _, rfl, t20, two, .base (.lst hp2), kL, true, rfl, iteF ?_⟩
        refine ⟨_, rfl, _, _, _, _, _, rfl, .ty _, .base (.lst hp2), kit_ty (r := true) (by decide +kernel), _, rfl, _, _, _, _, _, rfl, .ty _, .base (.lst hq2), kit_ty (r := true) (by decide +kernel), rfl, _, rfl, iteNS rfl ?_⟩
        refine ⟨_, rfl, p1, _, rfl, .inl (SqL.of hp2), _, rfl, p2, _, rfl, .inl (SqL.of hq2), rfl, _, rfl, iteNS rfl ?_⟩
        refine ⟨_, rfl, p2, _, rfl, .inl (SqL.of hq2), (xs.length : Int), rfl, by omega, by omega, fun D nD => ?_⟩
        refine lc_range (lo := 0) (n := xs.length) (fun i H' => Same H2 H' ∧ H' D = some (.lst [])) ⟨same_upd nD, upd_same⟩ ?_ ?_
        · rintro i H' hi ⟨s3, d3⟩
          have g : xs[i]? = some xs[i] := List.getElem?_eq_getElem hi
          have hz : (0 + (i : Int)) = ((i : Nat) : Int) := by omega
          rw [hz]
          refine ⟨rfl, _, rfl, _, rfl, .inl ⟨p1, _, _, _, rfl, rfl, SqL.of (s3 _ _ hp2), atI_nat g, ?_⟩⟩
          refine ⟨_, rfl, _, rfl, .inl ⟨p2, _, _, _, rfl, rfl, SqL.of (s3 _ _ hq2), atI_nat g, ?_⟩⟩
          refine ⟨xs[i], rfl, hfl _ (List.getElem_mem hi), fun H4 s4 => ⟨_, rfl, iteF ⟨s3.trans s4, s4 _ _ d3⟩⟩⟩
        · rintro H' ⟨s3, d3⟩
          refine ⟨(by show 0 ≤ sizeLine; decide), fun D2 nD2 => ?_⟩
          refine ⟨.list [], .list [], .lst (SqL.of (same_upd nD2 _ _ d3)) .nil, .lst (SqL.of upd_same) .nil, by decide, by decide, ?_⟩
          exact q _ (s0.trans (s2.trans (s3.trans (same_upd nD2))))
      | @tup p1 p2 xs hp hq hfl hl =>
        have hp1 := s0 _ _ hp
        have hq1 := s0 _ _ hq
        refine ⟨_, t, _, _, _, _, rfl, t0, two, .base (.tup hq1), kT, true, rfl, iteT ?_⟩
        refine ⟨_, rfl, (by show 2 ≤ sizeLine; decide), fun t2 nt2 => ?_⟩
        have s2 : Same H1 (upd H1 t2 (.tup [.ty "tuple", .ty "list"])) := same_upd nt2
        have t20 : (upd H1 t2 (.tup [.ty "tuple", .ty "list"])) t2 = some (.tup [.ty "tuple", .ty "list"]) := upd_same
        generalize upd H1 t2 (.tup [.ty "tuple", .ty "list"]) = H2 at s2 t20
        have hp2 := s2 _ _ hp1
        have hq2 := s2 _ _ hq1
        refine ⟨_, t2, _, _, _, _, rfl, t20, two, .base (.tup hp2), kT, true, rfl, iteF ?_⟩
        refine ⟨_, rfl, _, _, _, _, _, rfl, .ty _, .base (.tup hp2), kit_ty (r := false) (by decide +kernel), _, rfl, _, _, _, _, _, rfl, .ty _, .base (.tup hq2), kit_ty (r := false) (by decide +kernel), rfl, _, rfl, iteNS rfl ?_⟩
        refine ⟨_, rfl, p1, _, rfl, .inr (SqT.of hp2), _, rfl, p2, _, rfl, .inr (SqT.of hq2), rfl, _, rfl, iteNS rfl ?_⟩
        refine ⟨_, rfl, p2, _, rfl, .inr (SqT.of hq2), (xs.length : Int), rfl, by omega, by omega, fun D nD => ?_⟩
        refine lc_range (lo := 0) (n := xs.length) (fun i H' => Same H2 H' ∧ H' D = some (.lst [])) ⟨same_upd nD, upd_same⟩ ?_ ?_
        · rintro i H' hi ⟨s3, d3⟩
          have g : xs[i]? = some xs[i] := List.getElem?_eq_getElem hi
          have hz : (0 + (i : Int)) = ((i : Nat) : Int) := by omega
          rw [hz]
          refine ⟨rfl, _, rfl, _, rfl, .inr (.inl ⟨p1, _, _, _, rfl, rfl, SqT.of (s3 _ _ hp2), atI_nat g, ?_⟩)⟩
          refine ⟨_, rfl, _, rfl, .inr (.inl ⟨p2, _, _, _, rfl, rfl, SqT.of (s3 _ _ hq2), atI_nat g, ?_⟩)⟩
          refine ⟨xs[i], rfl, hfl _ (List.getElem_mem hi), fun H4 s4 => ⟨_, rfl, iteF ⟨s3.trans s4, s4 _ _ d3⟩⟩⟩
        · rintro H' ⟨s3, d3⟩
          refine ⟨(by show 0 ≤ sizeLine; decide), fun D2 nD2 => ?_⟩
          refine ⟨.list [], .list [], .lst (SqL.of (same_upd nD2 _ _ d3)) .nil, .lst (SqL.of upd_same) .nil, by decide, by decide, ?_⟩
          exact q _ (s0.trans (s2.trans (s3.trans (same_upd nD2))))
theorem kind_gives {X : Cx} {C : RKinds} {q : Str} {g : Addr} {cdg : Value} (T : KTxt X.mg C) : LamX.GivesTo X ["_law_work", "e", "_law_kinds", "_law_words", "_law_word"] "_law_kind" (defScope sKind) g cdg (defBody sKind) "_law_work" q (TKind X.K C) := by
  intro f c' s H Q tl act hc h
  refine ⟨_, pss_one (ps_try_as (X := (cxOf C8.CX0 X.prog X.w X.K X.mg X.base ["_law_work", "e", "_law_kinds", "_law_words", "_law_word"] "_law_kind" (defScope sKind) g cdg X.A X.stack s H C8.E0).nox) (c := .ref C.pe) (i := 1)
      (tb := fun W D σ H => ∃ Ech : XK, (∀ cls d σ' H', Ech cls d H' → W cls d σ' H') ∧ σ[0]? = some (some (.ref f)) ∧ H c' = some (LamX.CodeO c' q) ∧ tl Ech H D.rt)
      (ts := fun a cls d Dn σ Hn => σ.length = 5 → ∃ (D : Addr) (j : Nat), cls = .ref D ∧ d = none ∧ IsKind X.K C D j ∧ ∀ (oe : Obj) (pn : List (Addr × Obj)), Zc (.ref D) none oe → (∃ vs, oe.data = .fields vs) → ∃ t : TS,
        PSs ((cxOf C8.CX0 X.prog X.w X.K X.mg X.base ["_law_work", "e", "_law_kinds", "_law_words", "_law_word"] "_law_kind" (defScope sKind) g cdg X.A X.stack s H C8.E0).nox.suite a ((a, oe) :: pn)) (suiteOf (defBody sKind)) t ∧ t Dn σ Hn)
      rfl rfl scKind.nd rfl rfl ⟨by rfl, by decide, .inl T.gpe⟩ LamX.takes0 (fun W pn xe tk _ => ?_) (fun a oe cls d pn hz hf => ?_)), ?_⟩
  · refine ⟨fun pins s' σ H' D I h' => ?_⟩
    obtain ⟨Ech, hW, h1, h2, h3⟩ := h'
    exact (pss_one (ps_ret (act W pn xe Ech _ _ tk hW))).run pins s' σ H' D I ⟨h1, h2, h3⟩
  · refine ⟨fun pins s' σ H' Dn I h' => ?_⟩
    obtain ⟨D, j, rfl, rfl, kd, ht⟩ := h' I.len
    obtain ⟨t, ht, q⟩ := ht oe pn hz hf
    exact ht.run pins s' σ H' Dn I q
  · refine ⟨_, fun cls d σ' H' hE => ?_, rfl, hc, h⟩
    obtain ⟨D, j, rfl, rfl, kd, q'⟩ := hE
    refine ⟨true, kd.pe, fun _ a ha hlen => ?_, fun z => nomatch z⟩
    refine ⟨D, j, rfl, rfl, kd, fun oe pn hz hf => ⟨_, (pss_cons (ps_set (i := 2) scKind.nd rfl (.inl rfl) (pe_lst (pa_cons (pe_callB (call_isE kd.ex hz hf) (by rfl) T.isi (by decide +kernel) (pa_cons (pv 1) (pa_cons (pe_glob (v := .ref C.c0) rfl T.g0 rfl) pa_nil))) (pa_cons (pe_callB (call_isE kd.ex hz hf) (by rfl) T.isi (by decide +kernel) (pa_cons (pv 1) (pa_cons (pe_glob (v := .ref C.c1) rfl T.g1 rfl) pa_nil))) (pa_cons (pe_callB (call_isE kd.ex hz hf) (by rfl) T.isi (by decide +kernel) (pa_cons (pv 1) (pa_cons (pe_glob (v := .ref C.c2) rfl T.g2 rfl) pa_nil))) (pa_cons (pe_callB (call_isE kd.ex hz hf) (by rfl) T.isi (by decide +kernel) (pa_cons (pv 1) (pa_cons (pe_glob (v := .ref C.c3) rfl T.g3 rfl) pa_nil))) pa_nil))))))
          (pss_cons (ps_set (i := 2) scKind.nd rfl (.inl rfl) (pe_op op_cat (pv 2) (pe_lst (pa_cons (pe_callB (call_isE kd.ex hz hf) (by rfl) T.isi (by decide +kernel) (pa_cons (pv 1) (pa_cons (pe_glob (v := .ref C.c4) rfl T.g4 rfl) pa_nil))) (pa_cons (pe_callB (call_isE kd.ex hz hf) (by rfl) T.isi (by decide +kernel) (pa_cons (pv 1) (pa_cons (pe_glob (v := .ref C.c5) rfl T.g5 rfl) pa_nil))) (pa_cons (pe_callB (call_isE kd.ex hz hf) (by rfl) T.isi (by decide +kernel) (pa_cons (pv 1) (pa_cons (pe_glob (v := .ref C.c6) rfl T.g6 rfl) pa_nil))) pa_nil))))))
          (pss_cons (ps_set (i := 3) scKind.nd rfl (.inl rfl) (pe_lst (pa_cons pe_str (pa_cons pe_str (pa_cons pe_str (pa_cons pe_str (pa_cons pe_str (pa_cons pe_str (pa_cons pe_str pa_nil)))))))))
          (pss_cons (ps_if (PW.pt (pw_or (pt_cmpR op_ne (pe_bm PySem.F.plainAttrs_list PySem.F.slot_list_count PySem.F.type_list_count mt_countF (pv 2) (pa_cons pe_bl pa_nil)) pe_int (nomark _)) (pw_or1 (pt_not (pt_val (pe_callB (call_isE kd.ex hz hf) (by rfl) T.isi (by decide +kernel) (pa_cons (pv 1) (pa_cons (pe_bltn (v := .ty "ValueError") (by rfl) T.ve (by decide +kernel) rfl) pa_nil))))))))
            (pss_one (ps_ret pe_str)) pss_nil)
          (pss_cons (ps_set (i := 4) scKind.nd rfl (.inl rfl) (pe_ix ix_list (pv 3) (pe_bm PySem.F.plainAttrs_list PySem.F.slot_list_index PySem.F.type_list_index mt_index (pv 2) (pa_cons pe_bl pa_nil)) (fun _ _ => rfl)))
          (pss_one (ps_ret (pe_ifExp (pt_cmpR op_eq (pv 4) pe_str (nomark _)) pe_nev (pv 4))))))))), ?_⟩⟩
    rw [List.length_set] at hlen
    obtain ⟨x0, x1, x2, x3, x4, rfl⟩ : ∃ x0 x1 x2 x3 x4, σ' = [x0, x1, x2, x3, x4] := by
      match σ', hlen with
      | [x0, x1, x2, x3, x4], _ => exact ⟨x0, x1, x2, x3, x4, rfl⟩
    refine ⟨_, rfl, _, _, _, rfl, (fun u h => h), kd.k0, _, rfl, _, _, _, rfl, (fun u h => h), kd.k1, _, rfl, _, _, _, rfl, (fun u h => h), kd.k2, _, rfl, _, _, _, rfl, (fun u h => h), kd.k3, (by show 4 ≤ sizeLine; decide), fun p1 n1 => ?_⟩
    have s1 : Same H' (upd H' p1 (.lst [.bl (decide (j = 0)), .bl (decide (j = 1)), .bl (decide (j = 2)), .bl (decide (j = 3))])) := same_upd n1
    have e1 : (upd H' p1 (.lst [.bl (decide (j = 0)), .bl (decide (j = 1)), .bl (decide (j = 2)), .bl (decide (j = 3))])) p1 = some (.lst [.bl (decide (j = 0)), .bl (decide (j = 1)), .bl (decide (j = 2)), .bl (decide (j = 3))]) := upd_same
    refine ⟨_, rfl, _, rfl, _, _, _, rfl, (fun u h => h), kd.k4, _, rfl, _, _, _, rfl, (fun u h => h), kd.k5, _, rfl, _, _, _, rfl, (fun u h => h), kd.k6, (by show 3 ≤ sizeLine; decide), fun p2 n2 => ⟨p1, p2, _, _, rfl, rfl, same_upd n2 _ _ e1, upd_same, (by show 4 + 3 ≤ sizeLine; decide), fun p3 n3 => ?_⟩⟩
    have s3 := s1.trans ((same_upd (o := .lst [.bl (decide (j = 4)), .bl (decide (j = 5)), .bl false]) n2).trans (same_upd (o := .lst (kbits j)) n3))
    have e3 : (upd (upd (upd H' p1 (.lst [.bl (decide (j = 0)), .bl (decide (j = 1)), .bl (decide (j = 2)), .bl (decide (j = 3))])) p2 (.lst [.bl (decide (j = 4)), .bl (decide (j = 5)), .bl false])) p3 (.lst (kbits j))) p3 = some (.lst (kbits j)) := upd_same
    refine ⟨(by show 7 ≤ sizeLine; decide), fun p4 n4 => ?_⟩
    have s4 := s3.trans (same_upd (o := .lst kwords) n4)
    have e4 := same_upd (o := .lst kwords) n4 _ _ e3
    have hc1 : V.int (((kbits j).countP fun z => eqV z (.bl true) : Nat) : Int) = V.int 1 := by
      rw [kbits_one kd.j6]
      rfl
    refine ⟨_, rfl, .inl ⟨rfl, _, SqL.of e4⟩, p3, kbits j, .bl true, rfl, rfl, SqL.of e4, rfl, rfl, rfl, _, rfl, iteNS hc1 ?_⟩
    refine ⟨_, rfl, _, _, _, rfl, (fun u h => h), kd.kv, _, rfl, iteF ?_⟩
    refine ⟨_, rfl, _, rfl, .inl ⟨rfl, _, SqL.of e4⟩, p3, kbits j, .bl true, j, .bl true, rfl, rfl, SqL.of e4, rfl, rfl, kbits_at kd.j6, rfl, fun m z hm hz => kbits_ahead kd.j6 m z hm hz, p4, kwords, _, _, rfl, rfl, SqL.of upd_same, atI_nat (kwords_at kd.j6), ?_⟩
    exact ⟨_, rfl, rfl, _, rfl, iteFd (kword_no kd.j6) ⟨_, rfl, q' _ s4⟩⟩
theorem ok_far {f fD : Addr} {fd fdD : FuncData} (F : Fun K "_law_far" "_law_far" sFar f fd) (FD : Fun K "_law_drawn" "_law_drawn" sDrawn fD fdD) (bD : Binds K fdD ["_law_state", "_law_many"] []) (gD : mg "_law_drawn" = some (.ref fD)) (m_len : mg "len" = none) :
    FnOk P w K mg base CX0 2 f fd ["_law_state", "_law_least", "_law_most"] (spFar K) := by
  have GD : FnOk P w K mg base CX0 1 fD fdD ["_law_state", "_law_many"] (spDrawn K) := ok_drawn FD m_len
  refine F.ok scFar (fun vs H Q E h => ?_) (fun cdv A outer s H vs Q E hr h => ?_)
  · obtain ⟨p, a, ns, lo, hi, rfl, _⟩ := h
    rfl
  · obtain ⟨p, a, ns, lo, hi, rfl, S0, q⟩ := h
    refine ⟨_, pss_cons (ps_set (i := 3) scFar.nd rfl (.inl rfl) (pe_ix (r := rIxL K) ix_list (pe_lst (pa_cons pe_int (pa_cons pe_int (pa_cons (pe_op op_pow pe_int pe_int) pa_nil)))) (pe_call GD hr (by rfl) gD FD.kp bD .nil pass0 (pa_cons (pv 0) (pa_cons pe_int pa_nil))) (fun _ _ => rfl)))
      (pss_one (ps_ret (pe_ix (r := rIxL K) ix_list (pe_lst (pa_cons (pe_op op_sub (pe_op op_sub (pv 1) pe_int) (pe_call GD hr (by rfl) gD FD.kp bD .nil pass0 (pa_cons (pv 0) (pa_cons (pv 3) pa_nil)))) (pa_cons (pe_op op_add (pe_op op_add (pv 2) pe_int) (pe_call GD hr (by rfl) gD FD.kp bD .nil pass0 (pa_cons (pv 0) (pa_cons (pv 3) pa_nil)))) pa_nil))) (pe_call GD hr (by rfl) gD FD.kp bD .nil pass0 (pa_cons (pv 0) (pa_cons pe_int pa_nil))) (fun _ _ => rfl)))), ?_⟩
    refine ⟨_, _, rfl, rfl, ⟨by decide, by decide, by decide⟩, (by show 3 ≤ sizeLine; decide), fun l nl => ?_⟩
    have t1 := S0.ne nl
    have s0 : Same H (upd H l (.lst [.int 1, .int 20, .int (10 ^ (29 : Int).toNat)])) := same_upd nl
    refine ⟨_, rfl, p, a, ns, 3, rfl, S0.same s0, by decide, by decide, fun H1 v1 B1 S1 v10 v11 => ?_⟩
    have e1 : H1 l = some (.lst [.int 1, .int 20, .int (10 ^ (29 : Int).toNat)]) := B1 _ _ upd_same t1.symm
    obtain ⟨x, g1, x0, x1⟩ : ∃ x : Int, atI [V.int 1, V.int 20, V.int (10 ^ (29 : Int).toNat)] v1 = some (.int x) ∧ 0 < x ∧ x ≤ 100000000000000000000000000000 := by
      have hv : v1 = 0 ∨ v1 = 1 ∨ v1 = 2 := by omega
      rcases hv with rfl | rfl | rfl
      · exact ⟨1, rfl, by decide, by decide⟩
      · exact ⟨20, rfl, by decide, by decide⟩
      · exact ⟨_, rfl, by decide, by decide⟩
    refine ⟨l, _, _, _, rfl, rfl, SqL.of e1, g1, ?_⟩
    refine ⟨_, rfl, _, _, rfl, rfl, _, rfl, _, rfl, p, a, ns, x, rfl, S1, x0, (by omega), fun H2 v2 B2 S2 v20 v21 => ⟨_, _, rfl, rfl, ?_⟩⟩
    refine ⟨_, rfl, _, _, rfl, rfl, _, rfl, _, rfl, p, a, ns, x, rfl, S2, x0, (by omega), fun H3 v3 B3 S3 v30 v31 => ⟨_, _, rfl, rfl, (by show 2 ≤ sizeLine; decide), fun l2 n2 => ?_⟩⟩
    have t2 := S3.ne n2
    have s3 : Same H3 (upd H3 l2 (.lst [.int (lo - 1 - v2), .int (hi + 1 + v3)])) := same_upd n2
    have e3 : (upd H3 l2 (.lst [.int (lo - 1 - v2), .int (hi + 1 + v3)])) l2 = some (.lst [.int (lo - 1 - v2), .int (hi + 1 + v3)]) := upd_same
    refine ⟨_, rfl, p, a, ns, 2, rfl, S3.same s3, by decide, by decide, fun H4 v4 B4 S4 v40 v41 => ?_⟩
    have e4 := B4 _ _ e3 t2.symm
    have bb : But p H H4 := (But.of_same s0).trans (B1.trans (B2.trans (B3.trans ((But.of_same s3).trans B4))))
    have hv : v4 = 0 ∨ v4 = 1 := by omega
    rcases hv with rfl | rfl
    · exact ⟨l2, _, _, _, rfl, rfl, SqL.of e4, rfl, q H4 _ bb S4 (.inl (by omega))⟩
    · exact ⟨l2, _, _, _, rfl, rfl, SqL.of e4, rfl, q H4 _ bb S4 (.inr (by omega))⟩
theorem ok_init {f C : Addr} {fd : FuncData} (F : Fun K "__init__" "Stream.__init__" sInit f fd) (T : TxtS K mg C) (mB : ∃ u, mg "MOST_WHOLE" = some u ∧ RelV (.int 1000000000000) u) : FnOk P w K mg base CX0 1 f fd ["self", "whole"] (spInit C) := by
  obtain ⟨uB, mMOST_WHOLE, rMOST_WHOLE⟩ := mB
  refine F.ok scInit (fun vs H Q E h => ?_) (fun cdv A outer s H vs Q E hr h => ?_)
  · obtain ⟨p, dx, wh, rfl, _⟩ := h
    rfl
  · obtain ⟨p, dx, wh, rfl, hp, h1, h2, q⟩ := h
    refine ⟨_, pss_cons (ps_if (pt_not (pt_chain op_le op_le pe_int (pv 1) (pe_glob rfl mMOST_WHOLE rMOST_WHOLE)))
        (pss_one ps_never) pss_nil)
      (pss_cons (ps_fld (pv 0) (pv 1) rfl)
      (pss_cons (ps_fld (pv 0) pe_int rfl)
      (pss_one (ps_fld (pv 0) pe_int rfl)))), ?_⟩
    refine ⟨_, rfl, _, _, rfl, rfl, _, rfl, ?_⟩
    rw [decide_eq_true h1]
    refine iteT ⟨_, _, rfl, rfl, _, rfl, ?_⟩
    rw [decide_eq_true h2]
    refine iteF ?_
    refine ⟨_, rfl, _, rfl, p, C, dx, _, rfl, hp, T.cl, T.nW, (by show 0 < 1000; decide), ?_⟩
    refine ⟨_, rfl, p, C, dx, _, rfl, upd_same, T.cl, T.nL, (by show 1 < 1000; decide), ?_⟩
    refine ⟨_, rfl, p, C, dx, _, rfl, upd_same, T.cl, T.nT, (by rw [sF_new1]; show 2 < 1000; decide), ?_⟩
    refine q _ ⟨dx, Eq.trans upd_same (congrArg (fun q => some (HO.ins C dx q)) (sF_new wh))⟩ fun b o e hb => ?_
    rw [upd_ne hb, upd_ne hb, upd_ne hb]
    exact e
theorem ok_next {f C : Addr} {fd : FuncData} (F : Fun K "next" "Stream.next" sNext f fd) (T : TxtS K mg C) : FnOk P w K mg base CX0 1 f fd ["self", "share"] (spNext C) := by
  refine F.ok scNext (fun vs H Q E h => ?_) (fun cdv A outer s H vs Q E hr h => ?_)
  · obtain ⟨p, wh, l, t, sh, rfl, _⟩ := h
    rfl
  · obtain ⟨p, wh, l, t, sh, rfl, ⟨dx, hp⟩, h1, h2, h3, h4, q⟩ := h
    refine ⟨_, pss_cons (ps_if (pt_not (pt_chain op_le op_le pe_int (pv 1) (pe_fld (pv 0) rfl)))
        (pss_one ps_never) pss_nil)
      (pss_cons (ps_fldaug (pv 0) (pv 1) in_add)
      (pss_cons (ps_if (pt_cmpR op_lt (pe_fld (pv 0) rfl) (pe_fld (pv 0) rfl) (nomark _))
        (pss_one (ps_ret pe_int)) pss_nil)
      (pss_cons (ps_fldaug (pv 0) (pe_fld (pv 0) rfl) in_sub)
      (pss_cons (ps_fldaug (pv 0) pe_int in_add)
      (pss_one (ps_ret pe_int)))))), ?_⟩
    refine ⟨_, rfl, _, _, rfl, rfl, _, rfl, ?_⟩
    rw [decide_eq_true h1]
    refine iteT ⟨_, rfl, p, C, dx, _, _, rfl, hp, T.cl, T.nW, sF_whole _ _ _, _, _, rfl, rfl, _, rfl, ?_⟩
    rw [decide_eq_true h2]
    refine iteF ?_
    refine ⟨_, rfl, p, C, dx, _, _, rfl, hp, T.cl, T.nL, sF_left _ _ _, _, rfl, _, _, rfl, rfl, dx, _, hp, (by show 3 < 1000; decide), ?_⟩
    rw [sF_put_left]
    refine ⟨_, rfl, p, C, dx, _, _, rfl, upd_same, T.cl, T.nL, sF_left _ _ _, _, rfl, p, C, dx, _, _, rfl, upd_same, T.cl, T.nW, sF_whole _ _ _, _, _, rfl, rfl, _, rfl, ite2 (fun e => ?_) (fun e => ?_)⟩
    · have c : l + sh < wh := of_decide_eq_true e
      have e1 : (l + sh) / wh = 0 := Int.ediv_eq_zero_of_lt (by omega) c
      have e2 : (l + sh) % wh = l + sh := Int.emod_eq_of_lt (by omega) c
      rw [e1, e2] at q
      refine q _ But.upd ⟨dx, ?_⟩
      rw [show t + 0 = t by omega]
      exact upd_same
    · have c : ¬ l + sh < wh := fun z => e (decide_eq_true z)
      have e0 : l + sh = (l + sh - wh) + wh * 1 := by omega
      have z0 : (l + sh - wh) / wh = 0 := Int.ediv_eq_zero_of_lt (by omega) (by omega)
      have z1 : (l + sh - wh) % wh = l + sh - wh := Int.emod_eq_of_lt (by omega) (by omega)
      have e1 : (l + sh) / wh = 1 := by
        rw [e0, Int.add_mul_ediv_left _ _ (by omega : wh ≠ 0), z0]
        rfl
      have e2 : (l + sh) % wh = l + sh - wh := by
        have z : (l + sh - wh + wh * 1) % wh = l + sh - wh := by
          rw [Int.add_mul_emod_self_left]
          exact z1
        rw [← e0] at z
        exact z
      rw [e1, e2] at q
      refine ⟨_, rfl, p, C, dx, _, _, rfl, upd_same, T.cl, T.nL, sF_left _ _ _, _, rfl, p, C, dx, _, _, rfl, upd_same, T.cl, T.nW, sF_whole _ _ _, _, _, rfl, rfl, dx, _, upd_same, (by show 3 < 1000; decide), ?_⟩
      rw [upd_upd, sF_put_left]
      refine ⟨_, rfl, p, C, dx, _, _, rfl, upd_same, T.cl, T.nT, sF_told _ _ _, _, _, rfl, rfl, dx, _, upd_same, (by show 3 < 1000; decide), ?_⟩
      rw [upd_upd, sF_put_told]
      exact q _ But.upd ⟨dx, upd_same⟩
theorem ok_pulsed {f C fI fN : Addr} {fd fdI fdN : FuncData} (F : Fun K "pulsed" "pulsed" sPulsed f fd) (T : TxtS K mg C) (mB : ∃ u, mg "MOST_WHOLE" = some u ∧ RelV (.int 1000000000000) u)
    (MI : Mk K C fI) (FI : Fun K "__init__" "Stream.__init__" sInit fI fdI) (bI : Binds K fdI ["self", "whole"] []) (FN : Fun K "next" "Stream.next" sNext fN fdN) (bN : Binds K fdN ["self", "share"] []) (mN : Meth K C "next" fN) : FnOk P w K mg base CX0 3 f fd ["whole", "shares"] (spPulsed K) := by
  have GI : FnOk P w K mg base CX0 1 fI fdI ["self", "whole"] (spInit C) := ok_init FI T mB
  have GN : FnOk P w K mg base CX0 1 fN fdN ["self", "share"] (spNext C) := ok_next FN T
  have gStream := T.gC
  refine F.ok scPulsed (fun vs H Q E h => ?_) (fun cdv A outer s H vs Q E hr h => ?_)
  · obtain ⟨wh, q, ss, rfl, _⟩ := h
    rfl
  · obtain ⟨wh, sl, ss, rfl, hw1, hw2, hs, hss, hlen, q⟩ := h
    have hr1 := hr.mono (show 1 ≤ 2 by decide)
    refine ⟨_, pss_cons (ps_set (i := 2) scPulsed.nd rfl (.inl rfl) (pe_make MI GI hr (by rfl) gStream bI .nil pass0 (pa_cons (pv 0) pa_nil)))
      (pss_cons (ps_set (i := 3) scPulsed.nd rfl (.inl rfl) (pe_lst pa_nil))
      (pss_cons (ps_for PassesOwn.never rfl (pi_list (pv 1)) (pg_name (i := 4) scPulsed.nd rfl (.inl rfl))
        (pss_one (ps_expr (pe_bm PySem.F.plainAttrs_list PySem.F.slot_list_append PySem.F.type_list_append mt_append (pv 3) (pa_cons (pe_meth (pv 2) T.cl mN GN hr1 bN .nil pass0 (pa_cons (pv 4) pa_nil)) pa_nil)))))
      (pss_one (ps_ret (pv 3))))), ?_⟩
    refine ⟨_, rfl, fun x dx nx ndx nex => ⟨x, dx, wh, rfl, upd_same, hw1, hw2, fun H1 S1 k1 => ⟨rfl, ?_⟩⟩⟩
    have s1 : Same H H1 := Same.made nx ndx k1
    refine ⟨(by show 0 ≤ sizeLine; decide), fun r nr => ?_⟩
    have s2 : Same H1 (upd H1 r (.lst [])) := same_upd nr
    obtain ⟨dx1, hx1⟩ := id S1
    have rx : r ≠ x := (ne_of_none hx1 nr).symm
    refine ⟨_, rfl, sl, rfl, ⟨_, SqL.of (s2 _ _ (s1 _ _ hs))⟩, for_list (K := K) (a := sl) (xs := ss.map V.int) (fun i σ H' => ∃ v4 : Option V, σ = [some (.int wh), some (.ref sl), some (.ref x), some (.ref r), v4] ∧ Same H H' ∧ SAt C H' x wh ((ss.take i).sum % wh) ((ss.take i).sum / wh) ∧ H' r = some (.lst (((pulN wh ss) i).map V.int)))
      ⟨none, rfl, s1.trans s2, ⟨dx1, by rw [show ((ss.take 0).sum : Int) = 0 from rfl, Int.zero_emod, Int.zero_ediv]; exact s2 _ _ hx1⟩, upd_same⟩ (fun i σ H' _ ⟨_, _, s3, _⟩ => SqL.of (s3 _ _ hs)) ?_ ?_⟩
    · rintro i y σ H3 hi ⟨v4, rfl, s3, S3, e3⟩
      obtain ⟨z, hz, rfl⟩ := int_at hi
      obtain ⟨dx3, hx3⟩ := id S3
      have hzz := hss z (List.mem_of_getElem? hz)
      have nl : (((pulN wh ss) i).map V.int).length < sizeLine := by
        have := (List.getElem?_eq_some_iff.mp hz).1
        rw [List.length_map, pulN_len]
        exact Nat.lt_of_lt_of_le this (Nat.le_trans hlen (by decide))
      refine ⟨_, rfl, .inl ⟨rfl, _, SqL.of e3⟩, _, rfl, x, dx3, _, rfl, hx3, sF_no _ _ _ (by decide +kernel) (by decide +kernel) (by decide +kernel), _, rfl, x, wh, _, _, z, rfl, S3, hzz.1, hzz.2, (mod_lt (by omega)).1, (mod_lt (by omega)).2, fun H4 B4 S4 => ?_⟩
      have e4 := B4 _ _ e3 rx
      refine ⟨r, _, _, rfl, rfl, e4, nl, ?_⟩
      obtain ⟨p1, p2, p3⟩ := pul_step (wh := wh) (by omega) hz
      obtain ⟨dx4, hx4⟩ := S4
      refine ⟨_, rfl, fun b o e => ?_, ⟨dx4, ?_⟩, ?_⟩
      · rw [upd_ne (show b ≠ r from fun z => by rw [z, s1.free nr] at e; cases e)]
        exact B4 _ _ (s3 _ _ e) (fun z => by rw [z, nx] at e; cases e)
      · rw [upd_ne rx.symm, hx4, p1, p2]
      · rw [upd_same, p3, List.map_append]
        rfl
    · rintro σ H3 ⟨v4, rfl, s3, S3, e3⟩
      have hl : (ss.map V.int).length = ss.length := List.length_map ..
      rw [hl] at e3
      exact ⟨_, rfl, q H3 r s3 (s1.free nr) e3⟩
theorem ok_rest {f C : Addr} {fd : FuncData} (F : Fun K "rest" "Stream.rest" sRest f fd) (T : TxtS K mg C) : FnOk P w K mg base CX0 1 f fd ["self"] (spRest C) := by
  refine F.ok scRest (fun vs H Q E h => ?_) (fun cdv A outer s H vs Q E hr h => ?_)
  · obtain ⟨p, wh, l, t, rfl, _⟩ := h
    rfl
  · obtain ⟨p, wh, l, t, rfl, ⟨dx, hp⟩, q⟩ := h
    exact ⟨_, pss_one (ps_ret (pe_fld (pv 0) rfl)), _, rfl, p, C, dx, _, _, rfl, hp, T.cl, T.nL, sF_left _ _ _, q⟩
theorem ok_puls {f C : Addr} {fd : FuncData} (F : Fun K "pulses" "Stream.pulses" sPuls f fd) (T : TxtS K mg C) : FnOk P w K mg base CX0 1 f fd ["self"] (spPuls C) := by
  refine F.ok scPuls (fun vs H Q E h => ?_) (fun cdv A outer s H vs Q E hr h => ?_)
  · obtain ⟨p, wh, l, t, rfl, _⟩ := h
    rfl
  · obtain ⟨p, wh, l, t, rfl, ⟨dx, hp⟩, q⟩ := h
    exact ⟨_, pss_one (ps_ret (pe_fld (pv 0) rfl)), _, rfl, p, C, dx, _, _, rfl, hp, T.cl, T.nT, sF_told _ _ _, q⟩
theorem ok_initx {f C CS : Addr} {fd : FuncData} (F : Fun K "__init__" "Stream.__init__" sInit f fd) (T : TxtS K mg C) (mB : ∃ u, mg "MOST_WHOLE" = some u ∧ RelV (.int 1000000000000) u) (TW : ErrTxt K mg "BadShare" CS) : FnOk P w K mg base (L2.CX P w) 1 f fd ["self", "whole"] (spInitX CS) := by
  obtain ⟨uB, mMOST_WHOLE, rMOST_WHOLE⟩ := mB
  refine F.okX scInit (fun vs H Q E h => ?_) (fun cdv A outer s H vs Q E hr h => ?_)
  · obtain ⟨p, wh, rfl, _⟩ := h
    rfl
  · obtain ⟨p, wh, rfl, hx, q⟩ := h
    refine ⟨_, pss_cons (ps_if (pt_not (pt_chain op_le op_le pe_int (pv 1) (pe_glob rfl mMOST_WHOLE rMOST_WHOLE)))
        (pss_one (ps_raise rfl (takes_of rfl rfl rfl rfl) (pmk_own PySem.F.excBase_ValueError TW.x TW.g TW.k (raises_own TW.b TW.t) rfl))) pss_nil) pss_never, ?_⟩
    refine ⟨_, rfl, _, _, rfl, rfl, _, rfl, ite2 (fun e => ?_) (fun e => ?_)⟩
    · have c : 1 ≤ wh := of_decide_eq_true e
      exact ⟨_, _, rfl, rfl, _, rfl, iteNF (by omega) q⟩
    · exact ⟨_, rfl, iteT q⟩
theorem ok_nextb {f C CS : Addr} {fd : FuncData} (F : Fun K "next" "Stream.next" sNext f fd) (T : TxtS K mg C) (TW : ErrTxt K mg "BadShare" CS) : FnOk P w K mg base (L2.CX P w) 1 f fd ["self", "share"] (spNextB C CS) := by
  refine F.okX scNext (fun vs H Q E h => ?_) (fun cdv A outer s H vs Q E hr h => ?_)
  · obtain ⟨p, wh, l, t, sh, rfl, _⟩ := h
    rfl
  · obtain ⟨p, wh, l, t, sh, rfl, ⟨dx, hp⟩, hh⟩ := h
    refine ⟨_, pss_cons (ps_if (pt_not (pt_chain op_le op_le pe_int (pv 1) (pe_fld (pv 0) rfl)))
        (pss_one (ps_raise rfl (takes_of rfl rfl rfl rfl) (pmk_own PySem.F.excBase_ValueError TW.x TW.g TW.k (raises_own TW.b TW.t) rfl))) pss_nil)
      (pss_cons (ps_fldaug (pv 0) (pv 1) in_add)
      (pss_cons (ps_if (pt_cmpR op_lt (pe_fld (pv 0) rfl) (pe_fld (pv 0) rfl) (nomark _))
        (pss_one (ps_ret pe_int)) pss_nil)
      (pss_cons (ps_fldaug (pv 0) (pe_fld (pv 0) rfl) in_sub)
      (pss_cons (ps_fldaug (pv 0) pe_int in_add)
      (pss_one (ps_ret pe_int)))))), ?_⟩
    rcases hh with ⟨h1, h2, h3, h4, q⟩ | ⟨hx, q⟩
    case inr =>
      refine ⟨_, rfl, _, _, rfl, rfl, _, rfl, ite2 (fun e => ?_) (fun e => ⟨_, rfl, iteT q⟩)⟩
      have c : 0 ≤ sh := of_decide_eq_true e
      exact ⟨_, rfl, p, C, dx, _, _, rfl, hp, T.cl, T.nW, sF_whole _ _ _, _, _, rfl, rfl, _, rfl, iteNF (by omega) q⟩
    refine ⟨_, rfl, _, _, rfl, rfl, _, rfl, ?_⟩
    rw [decide_eq_true h1]
    refine iteT ⟨_, rfl, p, C, dx, _, _, rfl, hp, T.cl, T.nW, sF_whole _ _ _, _, _, rfl, rfl, _, rfl, ?_⟩
    rw [decide_eq_true h2]
    refine iteF ?_
    refine ⟨_, rfl, p, C, dx, _, _, rfl, hp, T.cl, T.nL, sF_left _ _ _, _, rfl, _, _, rfl, rfl, dx, _, hp, (by show 3 < 1000; decide), ?_⟩
    rw [sF_put_left]
    refine ⟨_, rfl, p, C, dx, _, _, rfl, upd_same, T.cl, T.nL, sF_left _ _ _, _, rfl, p, C, dx, _, _, rfl, upd_same, T.cl, T.nW, sF_whole _ _ _, _, _, rfl, rfl, _, rfl, ite2 (fun e => ?_) (fun e => ?_)⟩
    · have c : l + sh < wh := of_decide_eq_true e
      have e1 : (l + sh) / wh = 0 := Int.ediv_eq_zero_of_lt (by omega) c
      have e2 : (l + sh) % wh = l + sh := Int.emod_eq_of_lt (by omega) c
      rw [e1, e2] at q
      refine q _ But.upd ⟨dx, ?_⟩
      rw [show t + 0 = t by omega]
      exact upd_same
    · have c : ¬ l + sh < wh := fun z => e (decide_eq_true z)
      have e0 : l + sh = (l + sh - wh) + wh * 1 := by omega
      have z0 : (l + sh - wh) / wh = 0 := Int.ediv_eq_zero_of_lt (by omega) (by omega)
      have z1 : (l + sh - wh) % wh = l + sh - wh := Int.emod_eq_of_lt (by omega) (by omega)
      have e1 : (l + sh) / wh = 1 := by
        rw [e0, Int.add_mul_ediv_left _ _ (by omega : wh ≠ 0), z0]
        rfl
      have e2 : (l + sh) % wh = l + sh - wh := by
        have z : (l + sh - wh + wh * 1) % wh = l + sh - wh := by
          rw [Int.add_mul_emod_self_left]
          exact z1
        rw [← e0] at z
        exact z
      rw [e1, e2] at q
      refine ⟨_, rfl, p, C, dx, _, _, rfl, upd_same, T.cl, T.nL, sF_left _ _ _, _, rfl, p, C, dx, _, _, rfl, upd_same, T.cl, T.nW, sF_whole _ _ _, _, _, rfl, rfl, dx, _, upd_same, (by show 3 < 1000; decide), ?_⟩
      rw [upd_upd, sF_put_left]
      refine ⟨_, rfl, p, C, dx, _, _, rfl, upd_same, T.cl, T.nT, sF_told _ _ _, _, _, rfl, rfl, dx, _, upd_same, (by show 3 < 1000; decide), ?_⟩
      rw [upd_upd, sF_put_told]
      exact q _ But.upd ⟨dx, upd_same⟩
theorem ok_pulsedx {f C CS fI fN : Addr} {fd fdI fdN : FuncData} (F : Fun K "pulsed" "pulsed" sPulsed f fd) (T : TxtS K mg C) (mB : ∃ u, mg "MOST_WHOLE" = some u ∧ RelV (.int 1000000000000) u) (TW : ErrTxt K mg "BadShare" CS)
    (MI : Mk K C fI) (FI : Fun K "__init__" "Stream.__init__" sInit fI fdI) (bI : Binds K fdI ["self", "whole"] []) (FN : Fun K "next" "Stream.next" sNext fN fdN) (bN : Binds K fdN ["self", "share"] []) (mN : Meth K C "next" fN) : FnOk P w K mg base (L2.CX P w) 3 f fd ["whole", "shares"] (spPulsedX CS) := by
  have GI : FnOk P w K mg base CX0 1 fI fdI ["self", "whole"] (spInit C) := ok_init FI T mB
  have GN : FnOk P w K mg base (L2.CX P w) 1 fN fdN ["self", "share"] (spNextB C CS) := ok_nextb FN T TW
  have gStream := T.gC
  refine F.okX scPulsed (fun vs H Q E h => ?_) (fun cdv A outer s H vs Q E hr h => ?_)
  · obtain ⟨wh, q, ss, rfl, _⟩ := h
    rfl
  · obtain ⟨wh, sl, ss, rfl, hw1, hw2, hs, ⟨jb, zb, hjb, hzb⟩, hlen, q⟩ := h
    have hr1 := hr.mono (show 1 ≤ 2 by decide)
    refine ⟨_, pss_cons (ps_set (i := 2) scPulsed.nd rfl (.inl rfl) (pe_make MI GI hr (by rfl) gStream bI .nil pass0 (pa_cons (pv 0) pa_nil)))
      (pss_cons (ps_set (i := 3) scPulsed.nd rfl (.inl rfl) (pe_lst pa_nil))
      (pss_cons (ps_for (passes_of rfl) rfl (pi_list (pv 1)) (pg_name (i := 4) scPulsed.nd rfl (.inl rfl))
        (pss_one (ps_expr (pe_bm PySem.F.plainAttrs_list PySem.F.slot_list_append PySem.F.type_list_append mt_append (pv 3) (pa_cons (pe_meth (pv 2) T.cl mN GN hr1 bN .nil (passes_call (takes_of rfl rfl rfl rfl) (fun _ _ _ _ h => h)) (pa_cons (pv 4) pa_nil)) pa_nil)))))
      (pss_one (ps_ret (pv 3))))), ?_⟩
    refine ⟨_, rfl, fun x dx nx ndx nex => ⟨x, dx, wh, rfl, upd_same, hw1, hw2, fun H1 S1 k1 => ⟨rfl, ?_⟩⟩⟩
    have s1 : Same H H1 := Same.made nx ndx k1
    refine ⟨(by show 0 ≤ sizeLine; decide), fun r nr => ?_⟩
    have s2 : Same H1 (upd H1 r (.lst [])) := same_upd nr
    obtain ⟨dx1, hx1⟩ := id S1
    have rx : r ≠ x := (ne_of_none hx1 nr).symm
    refine ⟨_, rfl, sl, rfl, ⟨_, SqL.of (s2 _ _ (s1 _ _ hs))⟩, for_list (K := K) (a := sl) (xs := ss.map V.int) (fun i σ H' => ∃ v4 : Option V, σ = [some (.int wh), some (.ref sl), some (.ref x), some (.ref r), v4] ∧ Same H H' ∧ (∃ l t, SAt C H' x wh l t ∧ 0 ≤ l ∧ l < wh) ∧ (∃ ys, H' r = some (.lst ys) ∧ ys.length = i) ∧ ∀ (k : Nat) (z : Int), k < i → ss[k]? = some z → 0 ≤ z ∧ z ≤ wh)
      ⟨none, rfl, s1.trans s2, ⟨0, 0, ⟨dx1, s2 _ _ hx1⟩, Int.le_refl 0, by omega⟩, ⟨[], upd_same, rfl⟩, fun k z hk => absurd hk (Nat.not_lt_zero k)⟩ (fun i σ H' _ ⟨_, _, s3, _⟩ => SqL.of (s3 _ _ hs)) ?_ ?_⟩
    · rintro i y σ H3 hi ⟨v4, rfl, s3, ⟨l, t, S3, l0, l1⟩, ⟨ys, e3, ey⟩, good⟩
      obtain ⟨z, hz, rfl⟩ := int_at hi
      obtain ⟨dx3, hx3⟩ := id S3
      have nl : ys.length < sizeLine := by
        have := (List.getElem?_eq_some_iff.mp hz).1
        rw [ey]
        exact Nat.lt_of_lt_of_le this (Nat.le_trans hlen (by decide))
      refine ⟨_, rfl, .inl ⟨rfl, _, SqL.of e3⟩, _, rfl, x, dx3, _, rfl, hx3, sF_no _ _ _ (by decide +kernel) (by decide +kernel) (by decide +kernel), _, rfl, x, wh, l, t, z, rfl, S3, ?_⟩
      by_cases hzz : 0 ≤ z ∧ z ≤ wh
      · refine .inl ⟨hzz.1, hzz.2, l0, l1, fun H4 B4 S4 => ?_⟩
        have e4 := B4 _ _ e3 rx
        refine ⟨r, ys, _, rfl, rfl, e4, nl, ?_⟩
        obtain ⟨dx4, hx4⟩ := S4
        refine ⟨_, rfl, fun b o e => ?_, ⟨(l + z) % wh, t + (l + z) / wh, ⟨dx4, ?_⟩, (mod_lt (by omega)).1, (mod_lt (by omega)).2⟩, ⟨_, upd_same, by rw [List.length_append, ey]; rfl⟩, fun k z2 hk hz2 => ?_⟩
        · rw [upd_ne (show b ≠ r from fun z => by rw [z, s1.free nr] at e; cases e)]
          exact B4 _ _ (s3 _ _ e) (fun z => by rw [z, nx] at e; cases e)
        · rw [upd_ne rx.symm, hx4]
        · by_cases hki : k = i
          · subst hki
            rw [hz] at hz2
            obtain rfl := Option.some.inj hz2
            exact hzz
          · exact good k z2 (by omega) hz2
      · exact .inr ⟨by omega, q H3 s3⟩
    · rintro σ H3 ⟨v4, rfl, s3, _, _, good⟩
      rw [List.length_map] at good
      have lt := (List.getElem?_eq_some_iff.mp hjb).1
      have := good jb zb lt hjb
      omega
theorem two_tab {PL PB : Addr} {q1 q2 : Str} (hne : PL ≠ PB) {z : Addr × Str} (hz : z ∈ [(PL, q1), (PB, q2)]) (e : z.1 = PB) : z.2 = q2 := by
  rcases List.mem_cons.mp hz with rfl | hz
  · exact absurd e hne
  · rw [List.mem_singleton.mp hz]
theorem ok_beat {f fD fS fK fFa fN cB PL PB C : Addr} {lq : Str} {D : RKinds} {fdD fdS fdK fdFa fdN : FuncData} {oc kV dc pm ct : Value} {od an : Option Addr} {osl : Array (Option Value)}
    (lL : K.lookup f = some ⟨oc, od, .func (PySem.W.fnOf "_law_beat" "_law_beat" (defArgs sBeat) (defBody sBeat) (defScope sBeat) .none kV dc pm an (.ref cB) ct), osl⟩) (hL : PySem.W.codeIn K (.ref cB) "_law_beat" = true) (TB : LamX.TabB base mg cB PB) (hne : PL ≠ PB)
    (TK : KTxt mg D) (TW : ErrTxt K mg "BadShare" D.c1) (KW : IsKind K D D.c1 1) (T : TxtS K mg C)
    (FD : Fun K "_law_drawn" "_law_drawn" sDrawn fD fdD) (bD : Binds K fdD ["_law_state", "_law_many"] []) (gD : mg "_law_drawn" = some (.ref fD))
    (FS : Fun K "_law_same" "_law_same" sSame fS fdS) (bS : Binds K fdS ["_law_found", "_law_due"] []) (gS : mg "_law_same" = some (.ref fS))
    (FK : Fun K "_law_kind" "_law_kind" sKind fK fdK) (bK : Binds K fdK ["_law_work"] []) (gK : mg "_law_kind" = some (.ref fK))
    (FFa : Fun K "_law_far" "_law_far" sFar fFa fdFa) (bFa : Binds K fdFa ["_law_state", "_law_least", "_law_most"] []) (gFa : mg "_law_far" = some (.ref fFa))
    (FN : Fun K "next" "Stream.next" sNext fN fdN) (bN : Binds K fdN ["self", "share"] []) (mN : Meth K C "next" fN)
    (m_isinstance : mg "isinstance" = none) (m_tuple : mg "tuple" = none) (m_list : mg "list" = none) (m_str : mg "str" = none) (m_bool : mg "bool" = none) (m_int : mg "int" = none) (m_len : mg "len" = none) (m_range : mg "range" = none) (m_min : mg "min" = none) :
    FnOk P w K mg base CX0 4 f (PySem.W.fnOf "_law_beat" "_law_beat" (defArgs sBeat) (defBody sBeat) (defScope sBeat) .none kV dc pm an (.ref cB) ct) ["_law_state", "_law_side"] (spBeat K C [(PL, lq), (PB, beatQ)]) := by
  have GD : FnOk P w K mg base CX0 1 fD fdD ["_law_state", "_law_many"] (spDrawn K) := ok_drawn FD m_len
  have GS : FnOk P w K mg base CX0 2 fS fdS ["_law_found", "_law_due"] (spSame K) := ok_same FS bS gS m_isinstance m_tuple m_list m_str m_bool m_int m_len m_range
  have GFa : FnOk P w K mg base CX0 2 fFa fdFa ["_law_state", "_law_least", "_law_most"] (spFar K) := ok_far FFa FD bD gD m_len
  have GN : FnOk P w K mg base CX0 1 fN fdN ["self", "share"] (spNext C) := ok_next FN T
  have GNB : FnOk P w K mg base (L2.CX P w) 1 fN fdN ["self", "share"] (spNextB C D.c1) := ok_nextb FN T TW
  have hKex := FK.ex
  obtain ⟨ocK, odK, kVK, docK, pmK, anK, cdK, ctK, oslK, rfl, lkK, hcK⟩ := hKex
  refine ok_at lL hL scBeat (fun vs H Q E h => ?_) (fun A outer s H vs Q E hr h => ?_)
  · obtain ⟨p, a, sd, st, sh, ns, wh, ss, rfl, _⟩ := h
    rfl
  · obtain ⟨p, a, sd, st, sh, ns, wh, ss, rfl, S0, T0, D0, hlen, na1, na2, na3, q⟩ := h
    have hr1 := hr.mono (show 1 ≤ 3 by decide)
    have hr2 := hr.mono (show 2 ≤ 3 by decide)
    refine ⟨_, pss_cons (ps_asg (pv 1) (pg_unl rfl (pgs_cons (pg_name (i := 7) scBeat.nd rfl (.inr rfl)) (pgs_cons (pg_name (i := 2) scBeat.nd rfl (.inl rfl)) (pgs_cons (pg_name (i := 3) scBeat.nd rfl (.inl rfl)) (pgs_cons (pg_name (i := 4) scBeat.nd rfl (.inl rfl)) pgs_nil))))))
      (pss_cons (ps_set (i := 6) scBeat.nd rfl (.inr rfl) (pe_call GFa hr2 (by rfl) gFa FFa.kp bFa .nil pass0 (pa_cons (pv 0) (pa_cons pe_int (pa_cons (pv 2) pa_nil)))))
      (pss_cons (ps_if (pt_cmpR op_ne (LamX.pe_lamcall (T := [(PL, lq), (PB, beatQ)]) (k := 1) (t := fun E => tMeth C "next" (spNextB C D.c1) [] E (tVar 7) (tCons (tVar 6) tNil)) (by rfl) gK FK.kp lkK hcK bK scKind rfl (.inl rfl) (kind_gives TK) TB rfl (List.mem_cons_of_mem _ List.mem_cons_self) (fun z hz e => two_tab hne hz e) hr (LamX.lamS_by (sc := defScope sBeat) (by decide +kernel)) rfl (fun _ _ _ _ _ => rfl) (fun A outer s H E f c' hr2 => pe_meth (pv 7) T.cl mN GNB hr2 bN .nil (passes_call (takes_of rfl rfl rfl rfl) (fun _ _ _ _ h => h)) (pa_cons (pv 6) pa_nil))) pe_str (nomark _))
        (pss_one (ps_ret pe_bl)) pss_nil)
      (pss_cons (ps_set (i := 5) scBeat.nd rfl (.inl rfl) (pe_ix (r := rIxL K) ix_list (pe_lst (pa_cons pe_int (pa_cons (pv 2) (pa_cons (pe_call GD hr1 (by rfl) gD FD.kp bD .nil pass0 (pa_cons (pv 0) (pa_cons (pe_op op_add (pv 2) pe_int) pa_nil))) (pa_cons (pe_op op_fdiv (pv 2) pe_int) (pa_cons (pe_callB (call_min2 rfl) (by rfl) m_min (by decide +kernel) (pa_cons (pv 2) (pa_cons pe_int pa_nil))) pa_nil)))))) (pe_call GD hr1 (by rfl) gD FD.kp bD .nil pass0 (pa_cons (pv 0) (pa_cons pe_int pa_nil))) (fun _ _ => rfl)))
      (pss_cons (ps_asg (pe_op op_add (pv 3) (pv 5)) (pg_sub (pv 1) pe_int set_list))
      (pss_cons (ps_expr (pe_bm PySem.F.plainAttrs_list PySem.F.slot_list_append PySem.F.type_list_append mt_append (pv 4) (pa_cons (pv 5) pa_nil)))
      (pss_one (ps_ret (pe_call GS hr2 (by rfl) gS FS.kp bS .nil pass0 (pa_cons (pe_meth (pv 7) T.cl mN GN hr1 bN .nil pass0 (pa_cons (pv 5) pa_nil)) (pa_cons (pe_op op_sub (pe_op op_fdivW (pe_ix (r := rIxL K) ix_list (pv 1) pe_int (fun _ _ => rfl)) (pv 2)) (pe_op op_fdivW (pv 3) (pv 2))) pa_nil)))))))))), ?_⟩
    refine ⟨_, rfl, sd, _, rfl, SqL.of D0.sd, rfl, _, _, rfl, _, _, rfl, _, _, rfl, _, _, rfl, rfl, ?_⟩
    refine ⟨_, rfl, _, rfl, p, a, ns, 0, wh, rfl, S0, fun H1 v B1 S1 hv => ?_⟩
    have D1 := D0.but S0 B1
    have T1 := S0.tabs T0 B1
    refine ⟨T1, fun H2 eN T2 => ?_⟩
    have D2 := D1.extN eN
    have S2 := S1.extN eN
    obtain ⟨dx2, hx2⟩ := D2.st
    refine ⟨_, rfl, st, dx2, _, rfl, hx2, sF_no _ _ _ (by decide +kernel) (by decide +kernel) (by decide +kernel), _, rfl, st, wh, _, _, v, rfl, D2.st, .inr ⟨hv, ⟨D.c1, 1, rfl, rfl, KW, fun H3 s3 => ⟨rfl, _, rfl, iteNS rfl ?_⟩⟩⟩⟩
    have D3 := D2.same s3
    have S3 := S2.same s3
    have T3 := T2.ext s3
    have w1 := D0.w1
    have w2 := D0.w2
    refine ⟨_, rfl, _, rfl, _, rfl, _, _, rfl, rfl, p, a, ns, wh + 1, rfl, S3, by omega, by omega, fun H4 w4 B4 S4 w40 w41 => ?_⟩
    have D4 := D3.but S3 B4
    have T4 := S3.tabs T3 B4
    refine ⟨_, rfl, _, _, rfl, rfl, ⟨by decide, by decide⟩, _, rfl, _, _, rfl, (by show 5 ≤ sizeLine; decide), fun l nl => ?_⟩
    have s5 : Same H4 (upd H4 l (.lst [.int 0, .int wh, .int w4, .int (wh / 2), .int (if (1 : Int) < wh then 1 else wh)])) := same_upd nl
    refine ⟨_, rfl, p, a, ns, 5, rfl, S4.same s5, by decide, by decide, fun H6 w6 B6 S6 w60 w61 => ?_⟩
    have D6 := (D4.same s5).but (S4.same s5) B6
    have T6 := (S4.same s5).tabs (T4.ext s5) B6
    have l6 : H6 l = some (.lst [.int 0, .int wh, .int w4, .int (wh / 2), .int (if (1 : Int) < wh then 1 else wh)]) := B6 _ _ upd_same (S4.nlst nl)
    obtain ⟨x, g6, x0, x1⟩ : ∃ x : Int, atI [V.int 0, V.int wh, V.int w4, V.int (wh / 2), V.int (if (1 : Int) < wh then 1 else wh)] w6 = some (.int x) ∧ 0 ≤ x ∧ x ≤ wh := by
      have hv6 : w6 = 0 ∨ w6 = 1 ∨ w6 = 2 ∨ w6 = 3 ∨ w6 = 4 := by omega
      rcases hv6 with rfl | rfl | rfl | rfl | rfl
      · exact ⟨_, rfl, by omega, by omega⟩
      · exact ⟨_, rfl, by omega, by omega⟩
      · exact ⟨_, rfl, by omega, by omega⟩
      · exact ⟨_, rfl, by omega, by omega⟩
      · exact ⟨_, rfl, by split <;> omega, by split <;> omega⟩
    refine ⟨l, _, _, _, rfl, rfl, SqL.of l6, g6, ?_⟩
    have fr6 : ∀ b o, H b = some o → b ≠ p → (∀ ps, o ≠ .tbl ps) → H6 b = some o := fun b o e n1 n2 => B6 _ _ (s5 _ _ (B4 _ _ (s3 _ _ (eN _ _ (B1 _ _ e n1) n2)) n1)) n1
    clear s5 l6 B6 B4 S4 D4 T4 D3 S3 T3 s3 D2 S2 T2 eN D1 T1 S1 B1 nl hx2
    obtain ⟨m1, m2, m3⟩ := D6.ne
    obtain ⟨k1, k2, k3⟩ := D6.nep S6
    -- the side's sum
    refine ⟨_, rfl, _, rfl, _, _, rfl, rfl, _, rfl, sd, _, 2, 2, rfl, rfl, D6.sd, rfl, ?_⟩
    have B7 : But sd H6 (upd H6 sd (.lst [.ref st, .int wh, .int (ss.sum + x), .ref sh])) := But.upd
    have e7 : (upd H6 sd (.lst [.ref st, .int wh, .int (ss.sum + x), .ref sh])) sd = some (.lst [.ref st, .int wh, .int (ss.sum + x), .ref sh]) := upd_same
    have S7 := S6.but B7 k1 na1
    have T7 := tabs_but T6 B7 D6.sd
    have h7 := B7 _ _ D6.sh (Ne.symm m1)
    obtain ⟨dx, hx6⟩ := D6.st
    have hx7 := B7 _ _ hx6 (Ne.symm m2)
    show tSeq _ _ _ _ (upd H6 sd (.lst [.ref st, .int wh, .int (ss.sum + x), .ref sh]))
    generalize upd H6 sd (.lst [.ref st, .int wh, .int (ss.sum + x), .ref sh]) = H7 at B7 e7 S7 T7 h7 hx7
    -- the share
    refine ⟨_, rfl, .inl ⟨rfl, _, SqL.of h7⟩, _, rfl, sh, _, _, rfl, rfl, h7, (by rw [List.length_map]; exact small1000 (by omega)), ?_⟩
    have B8 : But sh H7 (upd H7 sh (.lst (ss.map V.int ++ [.int x]))) := But.upd
    have h8 : (upd H7 sh (.lst (ss.map V.int ++ [.int x]))) sh = some (.lst ((ss ++ [x]).map V.int)) := by
      rw [upd_same, List.map_append]
      rfl
    have S8 := S7.but B8 k3 na3
    have T8 := tabs_but T7 B8 h7
    have e8 := B8 _ _ e7 m1
    have hx8 := B8 _ _ hx7 (Ne.symm m3)
    generalize upd H7 sh (.lst (ss.map V.int ++ [.int x])) = H8 at B8 h8 S8 T8 e8 hx8
    -- told
    have z1 := mod_lt (a := ss.sum) (show 0 < wh by omega)
    refine ⟨_, rfl, st, dx, _, rfl, hx8, sF_no _ _ _ (by decide +kernel) (by decide +kernel) (by decide +kernel), _, rfl, st, wh, _, _, x, rfl, ⟨dx, hx8⟩, x0, x1, z1.1, z1.2, fun H9 B9 A9 => ?_⟩
    have e9 := B9 _ _ e8 m2
    have h9 := B9 _ _ h8 m3
    have S9 := S8.but B9 k2 na2
    have T9 : LamX.Tabs [(PL, lq), (PB, beatQ)] H9 := fun z hz => by
      obtain ⟨ps, i1, i2, i3⟩ := T8 z hz
      refine ⟨ps, B9 _ _ i1 (fun q => by rw [q, hx8] at i1; cases i1), i2, fun pos cv hc => ?_⟩
      obtain ⟨c, j1, j2⟩ := i3 pos cv hc
      exact ⟨c, j1, B9 _ _ j2 (fun q => by rw [q, hx8] at j2; unfold LamX.CodeO at j2; cases j2)⟩
    have e1 : wh * (ss.sum / wh) + ss.sum % wh = ss.sum := Int.mul_ediv_add_emod _ _
    have e2 : ss.sum + x = (ss.sum % wh + x) + wh * (ss.sum / wh) := by omega
    have e3 : (ss.sum + x) / wh = (ss.sum % wh + x) / wh + ss.sum / wh := by rw [e2, Int.add_mul_ediv_left _ _ (by omega : wh ≠ 0)]
    have e4 : (ss.sum + x) % wh = (ss.sum % wh + x) % wh := by rw [e2, Int.add_mul_emod_self_left]
    have e5 : (ss ++ [x]).sum = ss.sum + x := by
      rw [List.sum_append]
      show ss.sum + (x + 0) = _
      omega
    have wd : wh.natAbs < 2 ^ 200 := by omega
    refine ⟨_, rfl, sd, _, _, _, rfl, rfl, SqL.of e9, atI_nat (j := 2) rfl, _, rfl, _, _, rfl, rfl, wide_div (by omega) wd (by decide) (by decide), _, rfl, _, rfl, _, _, rfl, rfl, wide_div (by omega) wd (by decide) (by decide), _, _, rfl, rfl, ?_⟩
    have e6 : (ss.sum + x) / wh - ss.sum / wh = (ss.sum % wh + x) / wh := by omega
    refine ⟨_, _, congrArg (fun z => [V.int ((ss.sum % wh + x) / wh), V.int z]) e6, .flat (.int _), fun HA s10 => ?_⟩
    refine q HA x (S9.same s10) (T9.ext s10) ⟨?_, ?_, s10 _ _ h9, w1, w2, fun z hz => ?_⟩ fun b o e n1 n2 n3 n4 n5 => s10 _ _ (B9 _ _ (B8 _ _ (B7 _ _ (fr6 b o e n1 n5) n2) n3) n4)
    · rw [e5]
      exact s10 _ _ e9
    · obtain ⟨dx9, a9⟩ := A9
      refine ⟨dx9, ?_⟩
      rw [e5, e3, e4, Int.add_comm ((ss.sum % wh + x) / wh)]
      exact s10 _ _ a9
    · rcases List.mem_append.mp hz with h | h
      · exact D0.good z h
      · rw [List.mem_singleton.mp h]
        exact ⟨x0, x1⟩
theorem one_tab {PL PB : Addr} {q1 q2 : Str} (hne : PL ≠ PB) {z : Addr × Str} (hz : z ∈ [(PL, q1), (PB, q2)]) (e : z.1 = PL) : z.2 = q1 := by
  rcases List.mem_cons.mp hz with rfl | hz
  · rfl
  · rw [List.mem_singleton.mp hz] at e
    exact absurd e.symm hne
theorem ok_law {f fB fD fS fK fFa fI fN fR fU fP fSt cL cB PL PB C : Addr} {D : RKinds} {fdD fdS fdK fdFa fdI fdN fdR fdU fdP fdSt : FuncData} {oc kV dc pm ct oc2 kV2 dc2 pm2 ct2 : Value} {od an od2 an2 : Option Addr} {osl osl2 : Array (Option Value)}
    (lL : K.lookup f = some ⟨oc, od, .func (PySem.W.fnOf "law" "law" (defArgs sLaw) (defBody sLaw) (defScope sLaw) .none kV dc pm an (.ref cL) ct), osl⟩) (hL : PySem.W.codeIn K (.ref cL) "law" = true) (TBL : LamX.TabB base mg cL PL)
    (lB : K.lookup fB = some ⟨oc2, od2, .func (PySem.W.fnOf "_law_beat" "_law_beat" (defArgs sBeat) (defBody sBeat) (defScope sBeat) .none kV2 dc2 pm2 an2 (.ref cB) ct2), osl2⟩) (hB : PySem.W.codeIn K (.ref cB) "_law_beat" = true) (TBB : LamX.TabB base mg cB PB) (hne : PL ≠ PB)
    (kBt : PySem.W.keepIn K (.ref fB) = true) (bBt : Binds K (PySem.W.fnOf "_law_beat" "_law_beat" (defArgs sBeat) (defBody sBeat) (defScope sBeat) .none kV2 dc2 pm2 an2 (.ref cB) ct2) ["_law_state", "_law_side"] []) (gBt : mg "_law_beat" = some (.ref fB))
    (TK : KTxt mg D) (TW : ErrTxt K mg "BadShare" D.c1) (KW : IsKind K D D.c1 1) (T : TxtS K mg C) (mW : ∃ u, mg "MOST_WHOLE" = some u ∧ RelV (.int 1000000000000) u)
    (MI : Mk K C fI) (FI : Fun K "__init__" "Stream.__init__" sInit fI fdI) (bI : Binds K fdI ["self", "whole"] []) (FN : Fun K "next" "Stream.next" sNext fN fdN) (bN : Binds K fdN ["self", "share"] []) (mN : Meth K C "next" fN)
    (FR : Fun K "rest" "Stream.rest" sRest fR fdR) (bR : Binds K fdR ["self"] []) (mR : Meth K C "rest" fR) (FU : Fun K "pulses" "Stream.pulses" sPuls fU fdU) (bU : Binds K fdU ["self"] []) (mU : Meth K C "pulses" fU)
    (FP : Fun K "pulsed" "pulsed" sPulsed fP fdP) (bP : Binds K fdP ["whole", "shares"] []) (gP : mg "pulsed" = some (.ref fP))
    (FSt : Fun K "_law_start" "_law_start" sStart fSt fdSt) (bSt : Binds K fdSt ["_law_script"] []) (gSt : mg "_law_start" = some (.ref fSt))
    (FD : Fun K "_law_drawn" "_law_drawn" sDrawn fD fdD) (bD : Binds K fdD ["_law_state", "_law_many"] []) (gD : mg "_law_drawn" = some (.ref fD))
    (FS : Fun K "_law_same" "_law_same" sSame fS fdS) (bS : Binds K fdS ["_law_found", "_law_due"] []) (gS : mg "_law_same" = some (.ref fS))
    (FK : Fun K "_law_kind" "_law_kind" sKind fK fdK) (bK : Binds K fdK ["_law_work"] []) (gK : mg "_law_kind" = some (.ref fK))
    (FFa : Fun K "_law_far" "_law_far" sFar fFa fdFa) (bFa : Binds K fdFa ["_law_state", "_law_least", "_law_most"] []) (gFa : mg "_law_far" = some (.ref fFa))
    (m_isinstance : mg "isinstance" = none) (m_tuple : mg "tuple" = none) (m_list : mg "list" = none) (m_str : mg "str" = none) (m_bool : mg "bool" = none) (m_int : mg "int" = none) (m_len : mg "len" = none) (m_range : mg "range" = none) (m_sum : mg "sum" = none) (m_min : mg "min" = none) :
    FnOk P w K mg base CX0 6 f (PySem.W.fnOf "law" "law" (defArgs sLaw) (defBody sLaw) (defScope sLaw) .none kV dc pm an (.ref cL) ct) ["_law_script"] (spLaw2 K PL PB) := by
  have GSt : FnOk P w K mg base CX0 1 fSt fdSt ["_law_script"] (spStart K) := ok_start FSt
  have GD : FnOk P w K mg base CX0 1 fD fdD ["_law_state", "_law_many"] (spDrawn K) := ok_drawn FD m_len
  have GS : FnOk P w K mg base CX0 2 fS fdS ["_law_found", "_law_due"] (spSame K) := ok_same FS bS gS m_isinstance m_tuple m_list m_str m_bool m_int m_len m_range
  have GFa : FnOk P w K mg base CX0 2 fFa fdFa ["_law_state", "_law_least", "_law_most"] (spFar K) := ok_far FFa FD bD gD m_len
  have GI : FnOk P w K mg base CX0 1 fI fdI ["self", "whole"] (spInit C) := ok_init FI T mW
  have GIX : FnOk P w K mg base (L2.CX P w) 1 fI fdI ["self", "whole"] (spInitX D.c1) := ok_initx FI T mW TW
  have GR : FnOk P w K mg base CX0 1 fR fdR ["self"] (spRest C) := ok_rest FR T
  have GU : FnOk P w K mg base CX0 1 fU fdU ["self"] (spPuls C) := ok_puls FU T
  have GP : FnOk P w K mg base CX0 3 fP fdP ["whole", "shares"] (spPulsed K) := ok_pulsed FP T mW MI FI bI FN bN mN
  have GPX : FnOk P w K mg base (L2.CX P w) 3 fP fdP ["whole", "shares"] (spPulsedX D.c1) := ok_pulsedx FP T mW TW MI FI bI FN bN mN
  have GBt := ok_beat (P := P) (w := w) (lq := lamQ) lB hB TBB hne TK TW KW T FD bD gD FS bS gS FK bK gK FFa bFa gFa FN bN mN m_isinstance m_tuple m_list m_str m_bool m_int m_len m_range m_min
  have gStream := T.gC
  have hKex := FK.ex
  obtain ⟨ocK, odK, kVK, docK, pmK, anK, cdK, ctK, oslK, rfl, lkK, hcK⟩ := hKex
  refine ok_at lL hL scLaw (fun vs H Q E h => ?_) (fun A outer s H vs Q E hr h => ?_)
  · obtain ⟨a, ns, rfl, _⟩ := h
    rfl
  · obtain ⟨a, ns, rfl, hS, hP1, hP2, q⟩ := h
    have hr1 := hr.mono (show 1 ≤ 5 by decide)
    have hr2 := hr.mono (show 2 ≤ 5 by decide)
    have hr3 := hr.mono (show 3 ≤ 5 by decide)
    have hr4 := hr.mono (show 4 ≤ 5 by decide)
    refine ⟨_, pss_cons (ps_set (i := 1) scLaw.nd rfl (.inl rfl) (pe_call GSt hr1 (by rfl) gSt FSt.kp bSt .nil pass0 (pa_cons (pv 0) pa_nil)))
      (pss_cons (ps_set (i := 2) scLaw.nd rfl (.inl rfl) (pe_lst pa_nil))
      (pss_cons (ps_for PassesOwn.never rfl (pi_range1 rfl m_range (pa_cons pe_int pa_nil)) (pg_name (i := 3) scLaw.nd rfl (.inl rfl))
        (pss_cons (ps_set (i := 15) scLaw.nd rfl (.inr rfl) (pe_op op_add pe_int (pe_call GD hr1 (by rfl) gD FD.kp bD .nil pass0 (pa_cons (pv 1) (pa_cons (pe_ix (r := rIxL K) ix_list (pe_lst (pa_cons pe_int (pa_cons pe_int (pa_cons (pe_op op_pow pe_int pe_int) pa_nil)))) (pe_call GD hr1 (by rfl) gD FD.kp bD .nil pass0 (pa_cons (pv 1) (pa_cons pe_int pa_nil))) (fun _ _ => rfl)) pa_nil)))))
        (pss_one (ps_expr (pe_bm PySem.F.plainAttrs_list PySem.F.slot_list_append PySem.F.type_list_append mt_append (pv 2) (pa_cons (pe_lst (pa_cons (pe_make MI GI hr2 (by rfl) gStream bI .nil pass0 (pa_cons (pv 15) pa_nil)) (pa_cons (pv 15) (pa_cons pe_int (pa_cons (pe_lst pa_nil) pa_nil))))) pa_nil))))))
      (pss_cons (ps_for PassesOwn.never rfl (pi_range1 rfl m_range (pa_cons (pe_call GD hr1 (by rfl) gD FD.kp bD .nil pass0 (pa_cons (pv 1) (pa_cons (pe_ix (r := rIxL K) ix_list (pe_lst (pa_cons pe_int (pa_cons pe_int (pa_cons pe_int (pa_cons pe_int pa_nil))))) (pe_call GD hr1 (by rfl) gD FD.kp bD .nil pass0 (pa_cons (pv 1) (pa_cons pe_int pa_nil))) (fun _ _ => rfl)) pa_nil))) pa_nil)) (pg_name (i := 4) scLaw.nd rfl (.inl rfl))
        (pss_cons (ps_if (pt_not (pt_val (pe_call GBt hr4 (by rfl) gBt kBt bBt .nil pass0 (pa_cons (pv 1) (pa_cons (pe_ix (r := rIxL K) ix_list (pv 2) (pe_call GD hr1 (by rfl) gD FD.kp bD .nil pass0 (pa_cons (pv 1) (pa_cons pe_int pa_nil))) (fun _ _ => rfl)) pa_nil)))))
          (pss_one (ps_ret pe_bl)) pss_nil)
        (pss_one (ps_for PassesOwn.never rfl (pi_list (pv 2)) (pg_unl rfl (pgs_cons (pg_name (i := 5) scLaw.nd rfl (.inl rfl)) (pgs_cons (pg_name (i := 15) scLaw.nd rfl (.inr rfl)) (pgs_cons (pg_name (i := 6) scLaw.nd rfl (.inl rfl)) (pgs_cons (pg_name (i := 7) scLaw.nd rfl (.inl rfl)) pgs_nil)))))
          (pss_one (ps_if (pt_not (pt_val (pe_call GS hr2 (by rfl) gS FS.kp bS .nil pass0 (pa_cons (pe_lst (pa_cons (pe_meth0 (pv 5) T.cl mR GR hr1 bR .nil pass0) (pa_cons (pe_meth0 (pv 5) T.cl mU GU hr1 bU .nil pass0) pa_nil))) (pa_cons (pe_lst (pa_cons (pe_op op_mod (pv 6) (pv 15)) (pa_cons (pe_op op_fdivW (pv 6) (pv 15)) pa_nil))) pa_nil)))))
            (pss_one (ps_ret pe_bl)) pss_nil))))))
      (pss_cons (ps_for PassesOwn.never rfl (pi_list (pv 2)) (pg_unl rfl (pgs_cons (pg_name (i := 5) scLaw.nd rfl (.inl rfl)) (pgs_cons (pg_name (i := 15) scLaw.nd rfl (.inr rfl)) (pgs_cons (pg_name (i := 6) scLaw.nd rfl (.inl rfl)) (pgs_cons (pg_name (i := 7) scLaw.nd rfl (.inl rfl)) pgs_nil)))))
        (pss_cons (ps_set (i := 8) scLaw.nd rfl (.inl rfl) (pe_lst pa_nil))
        (pss_cons (ps_for PassesOwn.never rfl (pi_range1 rfl m_range (pa_cons (pe_callB call_len_seq (by rfl) m_len (by decide +kernel) (pa_cons (pv 7) pa_nil)) pa_nil)) (pg_name (i := 3) scLaw.nd rfl (.inl rfl))
          (pss_one (ps_expr (pe_bm PySem.F.plainAttrs_list PySem.F.slot_list_append PySem.F.type_list_append mt_append (pv 8) (pa_cons (pe_op op_sub (pe_op op_fdivW (pe_callB (id := "sum") (r := rSum K) (cr_sum rfl) (by rfl) m_sum (by decide +kernel) (pa_cons (pe_slice (r := rSlL K) sl_list (pv 7) po_none (po_some (pe_op op_add (pv 3) pe_int))) pa_nil)) (pv 15)) (pe_op op_fdivW (pe_callB (id := "sum") (r := rSum K) (cr_sum rfl) (by rfl) m_sum (by decide +kernel) (pa_cons (pe_slice (r := rSlL K) sl_list (pv 7) po_none (po_some (pv 3))) pa_nil)) (pv 15))) pa_nil)))))
        (pss_cons (ps_set (i := 9) scLaw.nd rfl (.inl rfl) (pe_callTy call_list_of (by rfl) m_list (by decide +kernel) (pa_cons (pv 7) pa_nil)))
        (pss_cons (ps_for PassesOwn.never rfl (pi_range1 rfl m_range (pa_cons pe_int pa_nil)) (pg_name (i := 10) scLaw.nd rfl (.inl rfl))
          (pss_cons (ps_set (i := 11) scLaw.nd rfl (.inl rfl) (pe_call GP hr3 (by rfl) gP FP.kp bP .nil pass0 (pa_cons (pv 15) (pa_cons (pv 9) pa_nil))))
          (pss_cons (ps_if (PW.pt (pw_or (pt_not (pt_val (pe_call GS hr2 (by rfl) gS FS.kp bS .nil pass0 (pa_cons (pv 11) (pa_cons (pv 8) pa_nil))))) (pw_or1 (pt_cmpR (r := rNeD K) (op_neD hr.units) (pv 9) (pv 7) (nomark _)))))
            (pss_one (ps_ret pe_bl)) pss_nil)
          (pss_one (ps_expr (pe_bm PySem.F.plainAttrs_list PySem.F.slot_list_append PySem.F.type_list_append mt_append (pv 11) (pa_cons pe_int pa_nil)))))))
        (pss_cons (ps_set (i := 12) scLaw.nd rfl (.inl rfl) (pe_call GD hr1 (by rfl) gD FD.kp bD .nil pass0 (pa_cons (pv 1) (pa_cons (pe_op op_add (pe_callB call_len_seq (by rfl) m_len (by decide +kernel) (pa_cons (pv 7) pa_nil)) pe_int) pa_nil))))
        (pss_cons (ps_set (i := 13) scLaw.nd rfl (.inr rfl) (pe_op op_cat (pe_op op_cat (pe_slice (r := rSlL K) sl_list (pv 7) po_none (po_some (pv 12))) (pe_lst (pa_cons (pe_call GFa hr2 (by rfl) gFa FFa.kp bFa .nil pass0 (pa_cons (pv 1) (pa_cons pe_int (pa_cons (pv 15) pa_nil)))) pa_nil))) (pe_slice (r := rSlL K) sl_list (pv 7) (po_some (pv 12)) po_none)))
        (pss_cons (ps_set (i := 14) scLaw.nd rfl (.inr rfl) (pe_call GFa hr2 (by rfl) gFa FFa.kp bFa .nil pass0 (pa_cons (pv 1) (pa_cons pe_int (pa_cons (pe_op op_pow pe_int pe_int) pa_nil)))))
        (pss_one (ps_if (PW.pt (pw_or (pt_cmpR op_ne (LamX.pe_lamcall (T := [(PL, lamQ), (PB, beatQ)]) (k := 3) (t := fun E => tCall (spPulsedX D.c1) [] E (tCons (tVar 15) (tCons (tVar 13) tNil))) (by rfl) gK FK.kp lkK hcK bK scKind rfl (.inl rfl) (kind_gives TK) TBL rfl List.mem_cons_self (fun z hz e => one_tab hne hz e) hr (LamX.lamS_by (sc := defScope sLaw) (by decide +kernel)) rfl (fun _ _ _ _ _ => rfl) (fun A outer s H E f c' hr2 => pe_call GPX hr2 (by rfl) gP FP.kp bP .nil (passes_call (takes_of rfl rfl rfl rfl) (fun _ _ _ _ h => h)) (pa_cons (pv 15) (pa_cons (pv 13) pa_nil)))) pe_str (nomark _)) (pw_or1 (pt_cmpR op_ne (CmD.pe_lamcallD (b := "_law_a") (z := 0) (T := [(PL, lamQ), (PB, beatQ)]) (k := 3) (t := fun E => tMake C (spInitX D.c1) [] E (tCons (tVar 14) tNil)) (by rfl) gK FK.kp lkK hcK bK scKind rfl (.inl rfl) (kind_gives TK) TBL rfl List.mem_cons_self (fun z hz e => one_tab hne hz e) hr rfl rfl (CmD.lamD_by (N := ["_law_script", "_law_state", "_law_sides", "_law_k", "_law_turn", "_law_stream", "_law_so_far", "_law_shares", "_law_due", "_law_handed", "_law_again", "_law_found", "_law_at", "_law_bad", "_law_none", "_law_whole"]) (sc := defScope sLaw) (by decide +kernel)) (fun t doc pm c' ctv tk s0 h => BindsTo.of_defaults rfl h rfl rfl rfl) (fun A outer s H E f c' hr2 => pe_make MI GIX (hr2.mono (show 2 ≤ 3 by decide)) (by rfl) gStream bI .nil (passes_call (takes_of rfl rfl rfl rfl) (fun _ _ _ _ h => h)) (pa_cons (pv 14) pa_nil))) pe_str (nomark _)))))
          (pss_one (ps_ret pe_bl)) pss_nil))))))))))
      (pss_one (ps_ret pe_bl)))))), ?_⟩
    have T0 : LamX.Tabs [(PL, lamQ), (PB, beatQ)] H := tabs_two hP1 hP2
    refine ⟨_, rfl, a, ns, rfl, hS, fun H1 p s1 np S1 => ?_⟩
    -- the two sides
    refine ⟨(by show 0 ≤ sizeLine; decide), fun sds nsd => ?_⟩
    have na0 := S1.na nsd
    have sdp := S1.nlst nsd
    have S2 := S1.same (same_upd (o := .lst []) nsd)
    have T2 := (T0.ext s1).ext (same_upd (o := .lst []) nsd)
    have e2 : (upd H1 sds (.lst [])) sds = some (.lst []) := upd_same
    generalize upd H1 sds (.lst []) = H2 at S2 T2 e2
    refine ⟨2, rfl, by decide, by decide, for_range (lo := 0) (n := 2) (fun i σ H' => ∃ (v3 v4 v5 v6 v7 v8 v9 v10 v11 v12 v13 v14 v15 : Option V) (l : List Side), σ = [some (.ref a), some (.ref p), some (.ref sds), v3, v4, v5, v6, v7, v8, v9, v10, v11, v12, v13, v14, v15] ∧ StAt K p a ns H' ∧ LamX.Tabs [(PL, lamQ), (PB, beatQ)] H' ∧ H' sds = some (.lst (l.map fun x => V.ref x.sd)) ∧ SidesAt K C a ns H' sds l ∧ l.length = i ∧ ∀ x ∈ l, x.ss.length = 0)
      ⟨none, none, none, none, none, none, none, none, none, none, none, none, none, [], rfl, S2, T2, e2, ⟨fun x hx => (nomatch hx), fun i j x y hx => (nomatch hx), na0⟩, rfl, fun x hx => (nomatch hx)⟩ ?_ ?_⟩
    · rintro i σ H3 hi ⟨v3, v4, v5, v6, v7, v8, v9, v10, v11, v12, v13, v14, v15, l, rfl, S3, T3, e3, L3, ll, lz⟩
      refine ⟨_, rfl, _, _, rfl, rfl, ⟨by decide, by decide, by decide⟩, (by show 3 ≤ sizeLine; decide), fun l1 nl1 => ?_⟩
      have s4 : Same H3 (upd H3 l1 (.lst [.int 10, .int 1000, .int (10 ^ (12 : Int).toNat)])) := same_upd nl1
      refine ⟨_, rfl, p, a, ns, 3, rfl, S3.same s4, by decide, by decide, fun H5 w5 B5 S5 w50 w51 => ?_⟩
      have l5 : H5 l1 = some (.lst [.int 10, .int 1000, .int (10 ^ (12 : Int).toNat)]) := B5 _ _ upd_same (S3.nlst nl1)
      obtain ⟨x, g5, x0, x1⟩ : ∃ x : Int, atI [V.int 10, V.int 1000, V.int (10 ^ (12 : Int).toNat)] w5 = some (.int x) ∧ 0 < x ∧ x ≤ 1000000000000 := by
        have hv : w5 = 0 ∨ w5 = 1 ∨ w5 = 2 := by omega
        rcases hv with rfl | rfl | rfl
        · exact ⟨10, rfl, by decide, by decide⟩
        · exact ⟨1000, rfl, by decide, by decide⟩
        · exact ⟨_, rfl, by decide, by decide⟩
      refine ⟨l1, _, _, _, rfl, rfl, SqL.of l5, g5, p, a, ns, x, rfl, S5, x0, (by omega), fun H6 w6 B6 S6 w60 w61 => ⟨_, _, rfl, rfl, ?_⟩⟩
      have wh1 : 1 ≤ 1 + w6 := by omega
      have wh2 : 1 + w6 ≤ 1000000000000 := by omega
      show gName 15 (V.int (1 + w6)) _ _ _
      generalize 1 + w6 = wh at wh1 wh2 ⊢
      have e6 := B6 _ _ (B5 _ _ (s4 _ _ e3) sdp) sdp
      have T6 := S5.tabs ((S3.same s4).tabs (T3.ext s4) B5) B6
      have L6 : SidesAt K C a ns H6 sds l := L3.keep fun y hy h => ((h.same s4).but (S3.same s4) B5).but S5 B6
      clear w60 w61 x0 x1 g5 l5 s4 B5 B6 S3 S5 T3 e3 L3 nl1
      refine ⟨_, rfl, .inl ⟨rfl, _, SqL.of e6⟩, _, rfl, fun st dx nst ndx nex => ⟨st, dx, wh, rfl, upd_same, wh1, wh2, fun H7 A7 k7 => ⟨rfl, _, rfl, (by show 0 ≤ sizeLine; decide), fun sh nsh => ⟨(by show 4 ≤ sizeLine; decide), fun sd nsd2 => ?_⟩⟩⟩⟩
      have s7 : Same H6 H7 := Same.made nst ndx k7
      have s8 : Same H7 (upd H7 sh (.lst [])) := same_upd nsh
      have s9 : Same (upd H7 sh (.lst [])) (upd (upd H7 sh (.lst [])) sd (.lst [.ref st, .int wh, .int 0, .ref sh])) := same_upd nsd2
      have sa := s7.trans (s8.trans s9)
      have h9 := s9 _ _ (upd_same : (upd H7 sh (.lst [])) sh = some (.lst []))
      have d9 : (upd (upd H7 sh (.lst [])) sd (.lst [.ref st, .int wh, .int 0, .ref sh])) sd = some (.lst [.ref st, .int wh, .int 0, .ref sh]) := upd_same
      obtain ⟨dy, hy⟩ := A7
      have y9 := s9 _ _ (s8 _ _ hy)
      have nsh6 := s7.free nsh
      have nsd6 := (s7.trans s8).free nsd2
      have S9 := S6.same sa
      have T9 := T6.ext sa
      have e9 := sa _ _ e6
      generalize upd (upd H7 sh (.lst [])) sd (.lst [.ref st, .int wh, .int 0, .ref sh]) = H9 at sa h9 d9 y9 S9 T9 e9
      have B10 : But sds H9 (upd H9 sds (.lst ((l.map fun x => V.ref x.sd) ++ [.ref sd]))) := But.upd
      have d1 := (ne_of_none e6 nsd6).symm
      have d2 := (ne_of_none e6 nst).symm
      have d3 := (ne_of_none e6 nsh6).symm
      refine ⟨sds, _, _, rfl, rfl, e9, (by rw [List.length_map, ll]; exact small1000 (by omega)), ?_⟩
      refine ⟨_, _, _, _, _, _, _, _, _, _, _, _, _, l ++ [⟨sd, st, sh, wh, []⟩], rfl, S9.but B10 sdp na0, tabs_but T9 B10 e9, by rw [upd_same, List.map_append]; rfl, ?_, by rw [List.length_append, ll]; rfl, fun z hz => ?_⟩
      · refine L6.push ⟨sd, st, sh, wh, []⟩ ⟨B10 _ _ d9 d1, ⟨dy, ?_⟩, B10 _ _ h9 d3, wh1, wh2, fun z hz => (nomatch hz)⟩ (S6.na nsd6) (S6.na nst) (S6.na nsh6) d1 d2 d3 nsd6 nst nsh6 fun b o e n => B10 _ _ (sa _ _ e) n
        show _ = some (HO.ins C dy (sF wh ((0 : Int) % wh) ((0 : Int) / wh)))
        rw [Int.zero_emod, Int.zero_ediv]
        exact B10 _ _ y9 d2
      · rcases List.mem_append.mp hz with q | q
        · exact lz z q
        · rw [List.mem_singleton.mp q]
          rfl
    · rintro σ H3 ⟨v3, v4, v5, v6, v7, v8, v9, v10, v11, v12, v13, v14, v15, l, rfl, S3, T3, e3, L3, ll, lz⟩
      clear e2 T2 S2 nsd
      refine ⟨_, rfl, (by show 4 ≤ sizeLine; decide), fun l1 nl1 => ?_⟩
      have s4 : Same H3 (upd H3 l1 (.lst [.int 101, .int 101, .int 101, .int 601])) := same_upd nl1
      refine ⟨_, rfl, p, a, ns, 4, rfl, S3.same s4, by decide, by decide, fun H5 w5 B5 S5 w50 w51 => ?_⟩
      have l5 : H5 l1 = some (.lst [.int 101, .int 101, .int 101, .int 601]) := B5 _ _ upd_same (S3.nlst nl1)
      obtain ⟨x, g5, x0, x1⟩ : ∃ x : Int, atI [V.int 101, V.int 101, V.int 101, V.int 601] w5 = some (.int x) ∧ 0 < x ∧ x ≤ 601 := by
        have hv : w5 = 0 ∨ w5 = 1 ∨ w5 = 2 ∨ w5 = 3 := by omega
        rcases hv with rfl | rfl | rfl | rfl
        · exact ⟨101, rfl, by decide, by decide⟩
        · exact ⟨101, rfl, by decide, by decide⟩
        · exact ⟨101, rfl, by decide, by decide⟩
        · exact ⟨601, rfl, by decide, by decide⟩
      refine ⟨l1, _, _, _, rfl, rfl, SqL.of l5, g5, p, a, ns, x, rfl, S5, x0, (by omega), fun H6 w6 B6 S6 w60 w61 => ?_⟩
      have e6 := B6 _ _ (B5 _ _ (s4 _ _ e3) sdp) sdp
      have T6 := S5.tabs ((S3.same s4).tabs (T3.ext s4) B5) B6
      have L6 : SidesAt K C a ns H6 sds l := L3.keep fun y hy h => ((h.same s4).but (S3.same s4) B5).but S5 B6
      have hw6 : w6.toNat ≤ 600 := by omega
      clear g5 l5 s4 B5 B6 S3 S5 T3 e3 L3 nl1
      refine ⟨w6, rfl, by omega, by omega, for_range (lo := 0) (n := w6.toNat) (fun i σ H' => ∃ (v3 v4 v5 v6 v7 v8 v9 v10 v11 v12 v13 v14 v15 : Option V) (l : List Side), σ = [some (.ref a), some (.ref p), some (.ref sds), v3, v4, v5, v6, v7, v8, v9, v10, v11, v12, v13, v14, v15] ∧ StAt K p a ns H' ∧ LamX.Tabs [(PL, lamQ), (PB, beatQ)] H' ∧ H' sds = some (.lst (l.map fun x => V.ref x.sd)) ∧ SidesAt K C a ns H' sds l ∧ l.length = 2 ∧ ∀ x ∈ l, x.ss.length ≤ i)
        ⟨_, _, _, _, _, _, _, _, _, _, _, _, _, l, rfl, S6, T6, e6, L6, ll, fun z hz => by rw [lz z hz]; exact Nat.zero_le _⟩ ?_ ?_⟩
      · clear e6 T6 L6 S6 ll lz
        rintro i σ H7 hi ⟨v3, v4, v5, v6, v7, v8, v9, v10, v11, v12, v13, v14, v15, l, rfl, S7, T7, e7, L7, ll, lz⟩
        refine ⟨_, rfl, _, rfl, _, rfl, p, a, ns, 2, rfl, S7, by decide, by decide, fun H8 w8 B8 S8 w80 w81 => ?_⟩
        have e8 := B8 _ _ e7 sdp
        have T8 := S7.tabs T7 B8
        have L8 : SidesAt K C a ns H8 sds l := L7.keep fun y hy h => h.but S7 B8
        obtain ⟨j, rfl⟩ : ∃ j : Nat, w8 = (j : Int) := ⟨w8.toNat, by omega⟩
        have hj : j < l.length := by omega
        have hx : l[j]? = some l[j] := List.getElem?_eq_getElem hj
        generalize l[j] = x at hx
        have g8 : (l.map fun x => V.ref x.sd)[j]? = some (V.ref x.sd) := by rw [List.getElem?_map, hx]; rfl
        have hm := List.mem_of_getElem? hx
        obtain ⟨D8, na1, na2, na3, d1, d2, d3⟩ := L8.each x hm
        refine ⟨sds, _, _, _, rfl, rfl, SqL.of e8, atI_nat g8, p, a, x.sd, x.st, x.sh, ns, x.wh, x.ss, rfl, S8, T8, D8, Nat.le_trans (lz x hm) (by omega), na1, na2, na3, fun H9 c S9 T9 D9 fr9 => ⟨_, rfl, iteF ?_⟩⟩
        have L9 := L8.step S8 hx ⟨x.sd, x.st, x.sh, x.wh, x.ss ++ [c]⟩ rfl rfl rfl D9 fr9
        have e9 := fr9 _ _ e8 sdp d1.symm d3.symm d2.symm (fun _ z => nomatch z)
        rw [← sds_set hx ⟨x.sd, x.st, x.sh, x.wh, x.ss ++ [c]⟩ rfl] at e9
        have ll9 : (l.set j ⟨x.sd, x.st, x.sh, x.wh, x.ss ++ [c]⟩).length = 2 := by rw [List.length_set]; exact ll
        have lz9 : ∀ y ∈ l.set j ⟨x.sd, x.st, x.sh, x.wh, x.ss ++ [c]⟩, y.ss.length ≤ i + 1 := fun y hy => by
          rcases List.mem_or_eq_of_mem_set hy with q | q
          · exact Nat.le_succ_of_le (lz y q)
          · rw [q]
            show (x.ss ++ [c]).length ≤ i + 1
            rw [List.length_append]
            exact Nat.succ_le_succ (lz x hm)
        generalize l.set j ⟨x.sd, x.st, x.sh, x.wh, x.ss ++ [c]⟩ = l9 at L9 e9 ll9 lz9
        refine ⟨_, rfl, sds, rfl, ⟨_, SqL.of e9⟩, for_list (K := K) (a := sds) (xs := l9.map fun x => V.ref x.sd) (fun k σ H' => ∃ (v3 v4 v5 v6 v7 v8 v9 v10 v11 v12 v13 v14 v15 : Option V), σ = [some (.ref a), some (.ref p), some (.ref sds), v3, v4, v5, v6, v7, v8, v9, v10, v11, v12, v13, v14, v15] ∧ Same H9 H')
          ⟨_, _, _, _, _, _, _, _, _, _, _, _, _, rfl, Same.refl H9⟩ (fun _ σ H' _ ⟨_, _, _, _, _, _, _, _, _, _, _, _, _, _, sA⟩ => SqL.of (sA _ _ e9)) ?_ ?_⟩
        · rintro k y σ HA hk ⟨v3, v4, v5, v6, v7, v8, v9, v10, v11, v12, v13, v14, v15, rfl, sA⟩
          obtain ⟨z, hz, rfl⟩ : ∃ z, l9[k]? = some z ∧ y = V.ref z.sd := by
            rw [List.getElem?_map] at hk
            cases e : l9[k]? with
            | none =>
              rw [e] at hk
              cases hk
            | some z =>
              rw [e] at hk
              exact ⟨z, rfl, (Option.some.inj hk).symm⟩
          have DA := (L9.each z (List.mem_of_getElem? hz)).1.same sA
          obtain ⟨dx, hst⟩ := DA.st
          have w1 := DA.w1
          have w2 := DA.w2
          have wd : z.wh.natAbs < 2 ^ 200 := by omega
          refine ⟨z.sd, _, rfl, SqL.of DA.sd, rfl, _, _, rfl, _, _, rfl, _, _, rfl, _, _, rfl, rfl, ?_⟩
          refine ⟨_, rfl, z.st, dx, _, rfl, hst, sF_no _ _ _ (by decide +kernel) (by decide +kernel) (by decide +kernel), z.st, z.wh, _, _, rfl, DA.st, ?_⟩
          refine ⟨_, rfl, z.st, dx, _, rfl, hst, sF_no _ _ _ (by decide +kernel) (by decide +kernel) (by decide +kernel), z.st, z.wh, _, _, rfl, DA.st, (by show 2 ≤ sizeLine; decide), fun q1 n1 => ?_⟩
          refine ⟨_, rfl, _, rfl, _, _, rfl, rfl, (by show (0 : Int) < z.wh; omega), _, rfl, _, rfl, _, _, rfl, rfl, wide_div (by omega) wd (by decide) (by decide), (by show 2 ≤ sizeLine; decide), fun q2 n2 => ?_⟩
          refine ⟨_, _, rfl, .lst (same_upd n2 _ _ upd_same) upd_same (flat_ints [z.ss.sum % z.wh, z.ss.sum / z.wh]) (by show 2 ≤ 1000000; decide), fun HB sB => ⟨_, rfl, iteF ?_⟩⟩
          exact ⟨_, _, _, _, _, _, _, _, _, _, _, _, _, rfl, sA.trans (((same_upd n1).trans (same_upd n2)).trans sB)⟩
        · rintro σ HA ⟨v3, v4, v5, v6, v7, v8, v9, v10, v11, v12, v13, v14, v15, rfl, sA⟩
          exact ⟨_, _, _, _, _, _, _, _, _, _, _, _, _, l9, rfl, S9.same sA, T9.ext sA, sA _ _ e9, L9.keep fun y hy h => h.same sA, ll9, lz9⟩
      · clear e6 T6 L6 S6 ll lz
        rintro σ H7 ⟨v3, v4, v5, v6, v7, v8, v9, v10, v11, v12, v13, v14, v15, l, rfl, S7, T7, e7, L7, ll, lz⟩
        refine ⟨_, rfl, sds, rfl, ⟨_, SqL.of e7⟩, for_list (K := K) (a := sds) (xs := l.map fun x => V.ref x.sd) (fun k σ H' => ∃ (v3 v4 v5 v6 v7 v8 v9 v10 v11 v12 v13 v14 v15 : Option V), σ = [some (.ref a), some (.ref p), some (.ref sds), v3, v4, v5, v6, v7, v8, v9, v10, v11, v12, v13, v14, v15] ∧ StAt K p a ns H' ∧ LamX.Tabs [(PL, lamQ), (PB, beatQ)] H' ∧ H' sds = some (.lst (l.map fun x => V.ref x.sd)) ∧ SidesAt K C a ns H' sds l)
          ⟨_, _, _, _, _, _, _, _, _, _, _, _, _, rfl, S7, T7, e7, L7⟩ (fun _ σ H' _ ⟨_, _, _, _, _, _, _, _, _, _, _, _, _, _, _, _, e, _⟩ => SqL.of e) ?_ ?_⟩
        · clear S7 T7 e7 L7
          rintro k y σ H8 hk ⟨v3, v4, v5, v6, v7, v8, v9, v10, v11, v12, v13, v14, v15, rfl, S8, T8, e8, L8⟩
          obtain ⟨z, hz, rfl⟩ : ∃ z, l[k]? = some z ∧ y = V.ref z.sd := by
            rw [List.getElem?_map] at hk
            cases e : l[k]? with
            | none =>
              rw [e] at hk
              cases hk
            | some z =>
              rw [e] at hk
              exact ⟨z, rfl, (Option.some.inj hk).symm⟩
          have hm := List.mem_of_getElem? hz
          have hlen : z.ss.length ≤ 600 := Nat.le_trans (lz z hm) hw6
          have D8 := (L8.each z hm).1
          have w1 := D8.w1
          have w2 := D8.w2
          have wd : z.wh.natAbs < 2 ^ 200 := by omega
          refine ⟨z.sd, _, rfl, SqL.of D8.sd, rfl, _, _, rfl, _, _, rfl, _, _, rfl, _, _, rfl, rfl, ?_⟩
          have hsl : ((z.ss.map V.int).length : Int) = (z.ss.length : Int) := by rw [List.length_map]
          -- what is due
          refine ⟨(by show 0 ≤ sizeLine; decide), fun du ndu => ?_⟩
          have s9 := same_upd (o := .lst []) ndu
          refine ⟨_, rfl, z.sh, _, rfl, .inl (SqL.of (s9 _ _ D8.sh)), _, rfl, by omega, by omega, for_range (lo := 0) (n := ((z.ss.map V.int).length : Int).toNat) (fun i σ H' => ∃ (v3 v4 v9 v10 v11 v12 v13 v14 : Option V), σ = [some (.ref a), some (.ref p), some (.ref sds), v3, v4, some (.ref z.st), some (.int z.ss.sum), some (.ref z.sh), some (.ref du), v9, v10, v11, v12, v13, v14, some (.int z.wh)] ∧ Same H8 H' ∧ H' du = some (.lst ((pulN z.wh z.ss i).map V.int)))
            ⟨_, _, _, _, _, _, _, _, rfl, s9, upd_same⟩ ?_ ?_⟩
          · rintro j σ H9 hj ⟨v3, v4, v9, v10, v11, v12, v13, v14, rfl, sA, e9⟩
            rw [hsl, Int.toNat_natCast] at hj
            rw [show (0 : Int) + (j : Int) = (j : Int) by omega]
            have h9 := sA _ _ D8.sh
            have c1 : ∀ q1, SqL K (upd H9 q1 (.lst (cutV (z.ss.map V.int) none (some ((j : Int) + 1))))) q1 ((z.ss.take (j + 1)).map V.int) := fun q1 => by
              rw [show (j : Int) + 1 = ((j + 1 : Nat) : Int) by omega, cut_take (by omega)]
              exact SqL.of upd_same
            refine ⟨_, rfl, .inl ⟨rfl, _, SqL.of e9⟩, _, rfl, _, rfl, _, _, rfl, rfl, (j : Int) + 1, rfl, z.sh, _, rfl, SqL.of h9, fun q1 nq1 => ⟨q1, _, rfl, c1 q1, _, rfl, _, _, rfl, rfl, wide_div (by omega) wd (by decide) (by decide), ?_⟩⟩
            have sB : Same H9 (upd H9 q1 (.lst (cutV (z.ss.map V.int) none (some ((j : Int) + 1))))) := same_upd nq1
            generalize upd H9 q1 (.lst (cutV (z.ss.map V.int) none (some ((j : Int) + 1)))) = HB at sB
            have c2 : ∀ q2, SqL K (upd HB q2 (.lst (cutV (z.ss.map V.int) none (some (j : Int))))) q2 ((z.ss.take j).map V.int) := fun q2 => by
              rw [cut_take (by omega)]
              exact SqL.of upd_same
            refine ⟨_, rfl, _, rfl, (j : Int), rfl, z.sh, _, rfl, SqL.of (sB _ _ h9), fun q2 nq2 => ⟨q2, _, rfl, c2 q2, _, rfl, _, _, rfl, rfl, wide_div (by omega) wd (by decide) (by decide), _, _, rfl, rfl, ?_⟩⟩
            have sC : Same HB (upd HB q2 (.lst (cutV (z.ss.map V.int) none (some (j : Int))))) := same_upd nq2
            refine ⟨du, _, _, rfl, rfl, sC _ _ (sB _ _ e9), (by rw [List.length_map, pulN_len]; exact small1000 (by omega)), ?_⟩
            refine ⟨_, _, _, _, _, _, _, _, rfl, fun b o e => ?_, ?_⟩
            · rw [upd_ne (show b ≠ du from fun q => by rw [q, ndu] at e; cases e)]
              exact sC _ _ (sB _ _ (sA _ _ e))
            · rw [upd_same, pulN_succ, List.map_append]
              rfl
          · rintro σ H9 ⟨v3, v4, v9, v10, v11, v12, v13, v14, rfl, sA, e9⟩
            rw [hsl, Int.toNat_natCast] at e9
            have h9 := sA _ _ D8.sh
            refine ⟨_, rfl, z.sh, _, rfl, .inl (SqL.of h9), fun hd nhd => ?_⟩
            have sB : Same H8 (upd H9 hd (.lst (z.ss.map V.int))) := sA.trans (same_upd nhd)
            have eB := same_upd (o := .lst (z.ss.map V.int)) nhd _ _ e9
            have hB : (upd H9 hd (.lst (z.ss.map V.int))) hd = some (.lst (z.ss.map V.int)) := upd_same
            generalize upd H9 hd (.lst (z.ss.map V.int)) = HB at sB eB hB
            clear sA e9 h9 nhd
            refine ⟨2, rfl, by decide, by decide, for_range (lo := 0) (n := 2) (fun i σ H' => ∃ (v3 v4 v10 v11 v12 v13 v14 : Option V), σ = [some (.ref a), some (.ref p), some (.ref sds), v3, v4, some (.ref z.st), some (.int z.ss.sum), some (.ref z.sh), some (.ref du), some (.ref hd), v10, v11, v12, v13, v14, some (.int z.wh)] ∧ Same HB H')
              ⟨_, _, _, _, _, _, _, rfl, Same.refl HB⟩ ?_ ?_⟩
            · rintro j σ HC hj ⟨v3, v4, v10, v11, v12, v13, v14, rfl, sC⟩
              refine ⟨_, rfl, _, rfl, z.wh, hd, z.ss, rfl, w1, w2, sC _ _ hB, D8.good, by omega, fun HD r sD nr er => ?_⟩
              refine ⟨_, rfl, _, rfl, _, _, rfl, .lst er (sD _ _ (sC _ _ eB)) (flat_ints _) (by rw [List.length_map, pulN_len]; omega), fun HE sE => ⟨_, rfl, iteF ?_⟩⟩
              have sF := (sC.trans sD).trans sE
              refine ⟨_, rfl, _, rfl, _, _, dp_ints (SqL.of (sF _ _ hB)), dp_ints (SqL.of (sF _ _ (sB _ _ D8.sh))), shaped_ints _, shaped_ints _, _, rfl, ?_⟩
              rw [eqv_ints]
              refine iteNS rfl ?_
              have erE := sE _ _ er
              refine ⟨_, rfl, .inl ⟨rfl, _, SqL.of erE⟩, r, _, _, rfl, rfl, erE, (by rw [List.length_map, pulN_len]; exact small1000 (by omega)), ?_⟩
              refine ⟨_, _, _, _, _, _, _, rfl, fun b o e => ?_⟩
              rw [upd_ne (show b ≠ r from fun q => by rw [q] at e; rw [sC.free nr] at e; cases e)]
              exact sF _ _ e
            · rintro σ HC ⟨v3, v4, v10, v11, v12, v13, v14, rfl, sC⟩
              have sX := sB.trans sC
              have SC := S8.same sX
              have TC := T8.ext sX
              have eC := sX _ _ e8
              have LC : SidesAt K C a ns HC sds l := L8.keep fun y hy h => h.same sX
              have hC := sX _ _ D8.sh
              have kp : z.sh ≠ p := (D8.nep S8).2.2
              clear sX sC sB eB hB S8 T8 e8 L8
              refine ⟨_, rfl, _, rfl, z.sh, _, rfl, .inl (SqL.of hC), _, _, rfl, rfl, p, a, ns, _, rfl, SC, (by omega), (by omega), fun HD wD BD SD wD0 wD1 => ?_⟩
              have hD := BD _ _ hC kp
              have TD := SC.tabs TC BD
              have eD := BD _ _ eC sdp
              have LD : SidesAt K C a ns HD sds l := LC.keep fun y hy h => h.but SC BD
              obtain ⟨at_, rfl⟩ : ∃ n : Nat, wD = (n : Int) := ⟨wD.toNat, by omega⟩
              have hat : at_ ≤ z.ss.length := by omega
              clear BD SC TC eC LC hC wD0 wD1
              -- the row with a bad share
              refine ⟨_, rfl, _, rfl, (at_ : Int), rfl, z.sh, _, rfl, SqL.of hD, fun q1 nq1 => ?_⟩
              have sE : Same HD (upd HD q1 (.lst ((z.ss.take at_).map V.int))) := same_upd nq1
              rw [cut_take hat]
              have g1 : (upd HD q1 (.lst ((z.ss.take at_).map V.int))) q1 = some (.lst ((z.ss.take at_).map V.int)) := upd_same
              have q1p := SD.nlst nq1
              generalize upd HD q1 (.lst ((z.ss.take at_).map V.int)) = HE at sE g1
              have SE := SD.same sE
              refine ⟨_, rfl, _, rfl, p, a, ns, 0, z.wh, rfl, SE, fun HF v BF SF hv => ⟨(by show 1 ≤ sizeLine; decide), fun q2 nq2 => ?_⟩⟩
              have sG : Same HF (upd HF q2 (.lst [.int v])) := same_upd nq2
              have g2 : (upd HF q2 (.lst [.int v])) q2 = some (.lst [.int v]) := upd_same
              have g1G := sG _ _ (BF _ _ g1 q1p)
              have hG := sG _ _ (BF _ _ (sE _ _ hD) kp)
              have SG := SF.same sG
              have TG := (SE.tabs (TD.ext sE) BF).ext sG
              have eG := sG _ _ (BF _ _ (sE _ _ eD) sdp)
              have LG : SidesAt K C a ns (upd HF q2 (.lst [.int v])) sds l := LD.keep fun y hy h => ((h.same sE).but SE BF).same sG
              generalize upd HF q2 (.lst [.int v]) = HG at sG g2 g1G hG SG TG eG LG
              clear sE g1 SE BF SF sG nq1 nq2 SD TD eD LD hD
              refine ⟨q1, q2, _, _, rfl, rfl, g1G, g2, ?_, fun q3 nq3 => ?_⟩
              · rw [List.length_map, List.length_take]
                exact Nat.le_trans (show min at_ z.ss.length + 1 ≤ 1000 by omega) (by decide)
              have sH : Same HG (upd HG q3 (.lst ((z.ss.take at_).map V.int ++ [.int v]))) := same_upd nq3
              have g3 : (upd HG q3 (.lst ((z.ss.take at_).map V.int ++ [.int v]))) q3 = some (.lst ((z.ss.take at_).map V.int ++ [.int v])) := upd_same
              generalize upd HG q3 (.lst ((z.ss.take at_).map V.int ++ [.int v])) = HH at sH g3
              refine ⟨_, rfl, _, rfl, (at_ : Int), rfl, z.sh, _, rfl, SqL.of (sH _ _ hG), fun q4 nq4 => ?_⟩
              rw [cut_drop hat]
              refine ⟨q3, q4, _, _, rfl, rfl, same_upd nq4 _ _ g3, upd_same, ?_, fun q5 nq5 => ?_⟩
              · rw [List.length_append, List.length_map, List.length_map, List.length_take, List.length_drop]
                exact Nat.le_trans (show min at_ z.ss.length + 1 + (z.ss.length - at_) ≤ 1000 by omega) (by decide)
              have eb : (z.ss.take at_).map V.int ++ [V.int v] ++ (z.ss.drop at_).map V.int = (z.ss.take at_ ++ v :: z.ss.drop at_).map V.int := by
                rw [List.map_append, List.map_cons, List.append_assoc]
                rfl
              rw [eb]
              have sI := sH.trans ((same_upd (o := .lst ((z.ss.drop at_).map V.int)) nq4).trans (same_upd (o := .lst ((z.ss.take at_ ++ v :: z.ss.drop at_).map V.int)) nq5))
              have g5 : (upd (upd HH q4 (.lst ((z.ss.drop at_).map V.int))) q5 (.lst ((z.ss.take at_ ++ v :: z.ss.drop at_).map V.int))) q5 = some (.lst ((z.ss.take at_ ++ v :: z.ss.drop at_).map V.int)) := upd_same
              generalize upd (upd HH q4 (.lst ((z.ss.drop at_).map V.int))) q5 (.lst ((z.ss.take at_ ++ v :: z.ss.drop at_).map V.int)) = HI at sI g5
              have SI := SG.same sI
              have q5p : q5 ≠ p := fun q => by
                obtain ⟨_, _, _, h1, _⟩ := SI
                rw [← q, g5] at h1
                have e2 := HO.lst.inj (Option.some.inj h1)
                cases e3 : z.ss.take at_ ++ v :: z.ss.drop at_ with
                | nil => simp at e3
                | cons y r =>
                  rw [e3, List.map_cons] at e2
                  injection e2 with e4 _
                  cases e4
              have TI := TG.ext sI
              have eI := sI _ _ eG
              have LI : SidesAt K C a ns HI sds l := LG.keep fun y hy h => h.same sI
              clear SG TG eG LG hG g1G g2 g3 sH sI nq3 nq4 nq5
              refine ⟨_, rfl, _, _, rfl, rfl, ⟨by decide, by decide, by decide⟩, p, a, ns, 1, 1000000000000, rfl, SI, fun HJ u BJ SJ hu => ?_⟩
              have gJ := BJ _ _ g5 q5p
              have TJ := SI.tabs TI BJ
              have eJ := BJ _ _ eI sdp
              have LJ : SidesAt K C a ns HJ sds l := LI.keep fun y hy h => h.but SI BJ
              have bad : ∃ (j : Nat) (y : Int), (z.ss.take at_ ++ v :: z.ss.drop at_)[j]? = some y ∧ (y < 0 ∨ z.wh < y) := by
                refine ⟨at_, v, ?_, hv⟩
                rw [List.getElem?_append_right (by rw [List.length_take]; omega), List.length_take, Nat.min_eq_left hat, Nat.sub_self]
                rfl
              have blen : (z.ss.take at_ ++ v :: z.ss.drop at_).length ≤ 1000 := by
                rw [List.length_append, List.length_cons, List.length_take, List.length_drop]
                omega
              refine ⟨TJ, fun HK eN TK2 => ⟨_, rfl, _, rfl, z.wh, q5, _, rfl, w1, w2, extN_lst eN gJ, bad, blen, fun HL sL => ⟨D.c1, 1, rfl, rfl, KW, fun HM sM => ⟨rfl, _, rfl, iteNS rfl ?_⟩⟩⟩⟩
              have sN := sL.trans sM
              have SM := (SJ.extN eN).same sN
              have TM := TK2.ext sN
              refine ⟨TM, fun HN eN2 TN => ⟨_, rfl, fun x dx nx ndx nex => ⟨x, u, rfl, hu, ⟨D.c1, 1, rfl, rfl, KW, fun HP sP => ⟨rfl, _, rfl, iteNS rfl ?_⟩⟩⟩⟩⟩
              have sQ := (Same.made (H := HN) (H1 := upd (upd HN dx (.own x)) x (.ins C dx [])) nx ndx fun b o e _ => e).trans sP
              exact ⟨_, _, _, _, _, _, _, _, _, _, _, _, _, rfl, (SM.extN eN2).same sQ, TN.ext sQ, sQ _ _ (extN_lst eN2 (sN _ _ (extN_lst eN eJ))), LJ.keep fun y hy h => (((h.extN eN).same sN).extN eN2).same sQ⟩
        · rintro σ H8 ⟨v3, v4, v5, v6, v7, v8, v9, v10, v11, v12, v13, v14, v15, rfl, S8, T8, e8, L8⟩
          exact q _
end
theorem all_mk {l : PySem.W.OpenLaw} {w : World} {K : PySem.W.Frag} {h : Heap} {mg : Str → Option Value} {fa cL PL f1 f2 f3 f4 f5 f6 f7 f8 Cpe Cc0 Cc1 Cc2 Cc3 Cc4 Cc5 Cc6 : Addr} (X : K.In h) (G : h.Ns mainGlobals mg) (hfa : mg "law" = some (.ref fa)) (own : LamX.OwnTab K fa h)
    {od1 an1 od2 an2 od3 an3 od4 an4 od5 an5 od6 an6 od7 an7 od8 an8 : Option Addr} {sl1 sl2 sl3 sl4 sl5 sl6 sl7 sl8 : Array (Option Value)} {oc1 kV1 dc1 pm1 cd1 ct1 oc2 kV2 dc2 pm2 cd2 ct2 oc3 kV3 dc3 pm3 cd3 ct3 oc4 kV4 dc4 pm4 cd4 ct4 oc5 kV5 dc5 pm5 cd5 ct5 oc6 kV6 dc6 pm6 cd6 ct6 oc7 kV7 dc7 pm7 ct7 oc8 kV8 dc8 pm8 ct8 : Value} {eC : Value} {ddC : Option Addr} {vsC : Array Value} {slC : Array (Option Value)}
    {tkMOST_WHOLE : Tok}
    {cB PB : Addr} {eB : Value} {ddB : Option Addr} {vsB : Array Value} {slB : Array (Option Value)}
    {C g1 g2 g3 g4 : Addr} {odg1 ang1 odg2 ang2 odg3 ang3 odg4 ang4 : Option Addr} {slg1 slg2 slg3 slg4 : Array (Option Value)} {ocg1 kVg1 dcg1 pmg1 cdg1 ctg1 ocg2 kVg2 dcg2 pmg2 cdg2 ctg2 ocg3 kVg3 dcg3 pmg3 cdg3 ctg3 ocg4 kVg4 dcg4 pmg4 cdg4 ctg4 : Value}
    (a1 : PySem.W.nsIn K mainGlobals "pulsed" = some (some (.ref f1))) (l1 : K.lookup f1 = some ⟨oc1, od1, .func (PySem.W.fnOf "pulsed" "pulsed" (defArgs sPulsed) (defBody sPulsed) (defScope sPulsed) .none kV1 dc1 pm1 an1 cd1 ct1), sl1⟩) (c1 : PySem.W.codeIn K cd1 "pulsed" = true) (k1 : PySem.W.keepIn K (.ref f1) = true)
    (a2 : PySem.W.nsIn K mainGlobals "_law_start" = some (some (.ref f2))) (l2 : K.lookup f2 = some ⟨oc2, od2, .func (PySem.W.fnOf "_law_start" "_law_start" (defArgs sStart) (defBody sStart) (defScope sStart) .none kV2 dc2 pm2 an2 cd2 ct2), sl2⟩) (c2 : PySem.W.codeIn K cd2 "_law_start" = true) (k2 : PySem.W.keepIn K (.ref f2) = true)
    (a3 : PySem.W.nsIn K mainGlobals "_law_drawn" = some (some (.ref f3))) (l3 : K.lookup f3 = some ⟨oc3, od3, .func (PySem.W.fnOf "_law_drawn" "_law_drawn" (defArgs sDrawn) (defBody sDrawn) (defScope sDrawn) .none kV3 dc3 pm3 an3 cd3 ct3), sl3⟩) (c3 : PySem.W.codeIn K cd3 "_law_drawn" = true) (k3 : PySem.W.keepIn K (.ref f3) = true)
    (a4 : PySem.W.nsIn K mainGlobals "_law_same" = some (some (.ref f4))) (l4 : K.lookup f4 = some ⟨oc4, od4, .func (PySem.W.fnOf "_law_same" "_law_same" (defArgs sSame) (defBody sSame) (defScope sSame) .none kV4 dc4 pm4 an4 cd4 ct4), sl4⟩) (c4 : PySem.W.codeIn K cd4 "_law_same" = true) (k4 : PySem.W.keepIn K (.ref f4) = true)
    (a5 : PySem.W.nsIn K mainGlobals "_law_kind" = some (some (.ref f5))) (l5 : K.lookup f5 = some ⟨oc5, od5, .func (PySem.W.fnOf "_law_kind" "_law_kind" (defArgs sKind) (defBody sKind) (defScope sKind) .none kV5 dc5 pm5 an5 cd5 ct5), sl5⟩) (c5 : PySem.W.codeIn K cd5 "_law_kind" = true) (k5 : PySem.W.keepIn K (.ref f5) = true)
    (a6 : PySem.W.nsIn K mainGlobals "_law_far" = some (some (.ref f6))) (l6 : K.lookup f6 = some ⟨oc6, od6, .func (PySem.W.fnOf "_law_far" "_law_far" (defArgs sFar) (defBody sFar) (defScope sFar) .none kV6 dc6 pm6 an6 cd6 ct6), sl6⟩) (c6 : PySem.W.codeIn K cd6 "_law_far" = true) (k6 : PySem.W.keepIn K (.ref f6) = true)
    (a7 : PySem.W.nsIn K mainGlobals "_law_beat" = some (some (.ref f7))) (l7 : K.lookup f7 = some ⟨oc7, od7, .func (PySem.W.fnOf "_law_beat" "_law_beat" (defArgs sBeat) (defBody sBeat) (defScope sBeat) .none kV7 dc7 pm7 an7 (.ref cB) ct7), sl7⟩) (c7 : PySem.W.codeIn K (.ref cB) "_law_beat" = true) (k7 : PySem.W.keepIn K (.ref f7) = true)
    (a8 : PySem.W.nsIn K mainGlobals "law" = some (some (.ref f8))) (l8 : K.lookup f8 = some ⟨oc8, od8, .func (PySem.W.fnOf "law" "law" (defArgs sLaw) (defBody sLaw) (defScope sLaw) .none kV8 dc8 pm8 an8 (.ref cL) ct8), sl8⟩) (c8 : PySem.W.codeIn K (.ref cL) "law" = true) (k8 : PySem.W.keepIn K (.ref f8) = true)
    (lc : K.lookup cL = some ⟨eC, ddC, .fields vsC, slC⟩) (v11 : vsC[11]? = some (.ref PL)) (hd : PySem.W.codeHdIn K cL PL = true) (nP : K.lookup PL = none)
    (lcB : K.lookup cB = some ⟨eB, ddB, .fields vsB, slB⟩) (v11B : vsB[11]? = some (.ref PB)) (hdB : PySem.W.codeHdIn K cB PB = true) (nPB : K.lookup PB = none) (hne : PL ≠ PB) (tabB : h.get? PB = some { cls := .none, data := .fields #[] })
    (z_isinstance : PySem.W.nsIn K mainGlobals "isinstance" = some none)
    (z_ValueError : PySem.W.nsIn K mainGlobals "ValueError" = some none)
    (z_tuple : PySem.W.nsIn K mainGlobals "tuple" = some none)
    (z_list : PySem.W.nsIn K mainGlobals "list" = some none)
    (z_str : PySem.W.nsIn K mainGlobals "str" = some none)
    (z_bool : PySem.W.nsIn K mainGlobals "bool" = some none)
    (z_int : PySem.W.nsIn K mainGlobals "int" = some none)
    (z_len : PySem.W.nsIn K mainGlobals "len" = some none)
    (z_range : PySem.W.nsIn K mainGlobals "range" = some none)
    (z_sum : PySem.W.nsIn K mainGlobals "sum" = some none)
    (z_min : PySem.W.nsIn K mainGlobals "min" = some none)
    (nMOST_WHOLE : PySem.W.nsIn K mainGlobals "MOST_WHOLE" = some (some (.int 1000000000000 tkMOST_WHOLE)))
    (ype : PySem.W.nsIn K mainGlobals "PulseError" = some (some (.ref Cpe)))
    (yc0 : PySem.W.nsIn K mainGlobals "BadFrame" = some (some (.ref Cc0)))
    (yc1 : PySem.W.nsIn K mainGlobals "BadShare" = some (some (.ref Cc1)))
    (yc2 : PySem.W.nsIn K mainGlobals "BadWidth" = some (some (.ref Cc2)))
    (yc3 : PySem.W.nsIn K mainGlobals "BadBegins" = some (some (.ref Cc3)))
    (yc4 : PySem.W.nsIn K mainGlobals "BadRuns" = some (some (.ref Cc4)))
    (yc5 : PySem.W.nsIn K mainGlobals "NoRoom" = some (some (.ref Cc5)))
    (yc6 : PySem.W.nsIn K mainGlobals "BadText" = some (some (.ref Cc6)))
    (x1_x : PySem.W.excIn K Cc1 [.type "ValueError", .type "Exception", .type "BaseException", .type "object"] "ValueError.__new__" = true)
    (x1_k : PySem.W.keepIn K (.ref Cc1) = true)
    (x1_b : PySem.W.subIn K (.ref Cc1) (.type "BaseException") = some true)
    (x1_t : PySem.W.typeIn K (.ref Cc1) = some (.type "type"))
    (x1_hg : PySem.W.findIn K (.ref Cc1) "__getattribute__" = some (some (.builtin "BaseException.__getattribute__")))
    (x1_hk : PySem.W.findIn K (.ref Cc1) "__getattr__" = some none)
    (x1_hd : PySem.W.hasDictIn K Cc1 = true)
    (x1_ha : PySem.W.findIn K (.ref Cc1) "__class__" = some (some (.builtin "object.__class__")))
    (x1_hm : PySem.W.mroIn K Cc1 (.type "object") = some true)
    (x1_pe : PySem.W.exmOne K (.ref Cc1) (.ref Cpe) = some true)
    (x1_k0 : PySem.W.kitOne K (.ref Cc1) (.ref Cc0) = some false)
    (x1_k1 : PySem.W.kitOne K (.ref Cc1) (.ref Cc1) = some true)
    (x1_k2 : PySem.W.kitOne K (.ref Cc1) (.ref Cc2) = some false)
    (x1_k3 : PySem.W.kitOne K (.ref Cc1) (.ref Cc3) = some false)
    (x1_k4 : PySem.W.kitOne K (.ref Cc1) (.ref Cc4) = some false)
    (x1_k5 : PySem.W.kitOne K (.ref Cc1) (.ref Cc5) = some false)
    (x1_k6 : PySem.W.kitOne K (.ref Cc1) (.ref Cc6) = some false)
    (x1_kv : PySem.W.kitOne K (.ref Cc1) (.type "ValueError") = some true)
    (q_hn : PySem.W.specialIn K (.builtin "object.__class__") "__get__" = some (some (.builtin "getset_descriptor.__get__")))
    (q_ht : PySem.W.takesIn K (.builtin "object.__class__") = some true)
    (aC : PySem.W.nsIn K mainGlobals "Stream" = some (some (.ref C)))
    (ag1 : PySem.W.findIn K (.ref C) "__init__" = some (some (.ref g1)))
    (ig1 : PySem.W.isFn K (.ref g1) = true)
    (lg1 : K.lookup g1 = some ⟨ocg1, odg1, .func (PySem.W.fnOf "__init__" "Stream.__init__" (defArgs sInit) (defBody sInit) (defScope sInit) .none kVg1 dcg1 pmg1 ang1 cdg1 ctg1), slg1⟩)
    (cg1 : PySem.W.codeIn K cdg1 "Stream.__init__" = true)
    (kg1 : PySem.W.keepIn K (.ref g1) = true)
    (ag2 : PySem.W.findIn K (.ref C) "next" = some (some (.ref g2)))
    (ig2 : PySem.W.isFn K (.ref g2) = true)
    (lg2 : K.lookup g2 = some ⟨ocg2, odg2, .func (PySem.W.fnOf "next" "Stream.next" (defArgs sNext) (defBody sNext) (defScope sNext) .none kVg2 dcg2 pmg2 ang2 cdg2 ctg2), slg2⟩)
    (cg2 : PySem.W.codeIn K cdg2 "Stream.next" = true)
    (kg2 : PySem.W.keepIn K (.ref g2) = true)
    (ag3 : PySem.W.findIn K (.ref C) "rest" = some (some (.ref g3)))
    (ig3 : PySem.W.isFn K (.ref g3) = true)
    (lg3 : K.lookup g3 = some ⟨ocg3, odg3, .func (PySem.W.fnOf "rest" "Stream.rest" (defArgs sRest) (defBody sRest) (defScope sRest) .none kVg3 dcg3 pmg3 ang3 cdg3 ctg3), slg3⟩)
    (cg3 : PySem.W.codeIn K cdg3 "Stream.rest" = true)
    (kg3 : PySem.W.keepIn K (.ref g3) = true)
    (ag4 : PySem.W.findIn K (.ref C) "pulses" = some (some (.ref g4)))
    (ig4 : PySem.W.isFn K (.ref g4) = true)
    (lg4 : K.lookup g4 = some ⟨ocg4, odg4, .func (PySem.W.fnOf "pulses" "Stream.pulses" (defArgs sPuls) (defBody sPuls) (defScope sPuls) .none kVg4 dcg4 pmg4 ang4 cdg4 ctg4), slg4⟩)
    (cg4 : PySem.W.codeIn K cdg4 "Stream.pulses" = true)
    (kg4 : PySem.W.keepIn K (.ref g4) = true)
    (pgC : PySem.W.plainGet K C Str.empty = true)
    (hdC : PySem.W.hasDictIn K C = true)
    (poC : PySem.W.plainOver K C = true)
    (saC : PySem.W.findIn K (.ref C) "__setattr__" = some (some (.builtin "object.__setattr__")))
    (mkC : PySem.W.makesIn K C = true)
    (kcC : PySem.W.keepIn K (.ref C) = true)
    (nW : PySem.W.findIn K (.ref C) "whole" = some none)
    (nL : PySem.W.findIn K (.ref C) "left" = some none)
    (nT : PySem.W.findIn K (.ref C) "told" = some none)
    : LamX.LawAtS l w K CX0 6 63 "_law_script" mg fa h := by
  have e := hfa.symm.trans (PySem.W.mg_of X G a8)
  cases e
  have F1 := fun_mk (st := sPulsed) l1 c1 k1
  have b1 := F1.binds (ps := ["whole", "shares"]) fun _ _ _ _ _ _ us hl => match us, hl with | [_, _], _ => rfl
  have g1 := PySem.W.mg_of X G a1
  have F2 := fun_mk (st := sStart) l2 c2 k2
  have b2 := F2.binds (ps := ["_law_script"]) fun _ _ _ _ _ _ us hl => match us, hl with | [_], _ => rfl
  have g2 := PySem.W.mg_of X G a2
  have F3 := fun_mk (st := sDrawn) l3 c3 k3
  have b3 := F3.binds (ps := ["_law_state", "_law_many"]) fun _ _ _ _ _ _ us hl => match us, hl with | [_, _], _ => rfl
  have g3 := PySem.W.mg_of X G a3
  have F4 := fun_mk (st := sSame) l4 c4 k4
  have b4 := F4.binds (ps := ["_law_found", "_law_due"]) fun _ _ _ _ _ _ us hl => match us, hl with | [_, _], _ => rfl
  have g4 := PySem.W.mg_of X G a4
  have F5 := fun_mk (st := sKind) l5 c5 k5
  have b5 := F5.binds (ps := ["_law_work"]) fun _ _ _ _ _ _ us hl => match us, hl with | [_], _ => rfl
  have g5 := PySem.W.mg_of X G a5
  have F6 := fun_mk (st := sFar) l6 c6 k6
  have b6 := F6.binds (ps := ["_law_state", "_law_least", "_law_most"]) fun _ _ _ _ _ _ us hl => match us, hl with | [_, _, _], _ => rfl
  have g6 := PySem.W.mg_of X G a6
  have F7 := fun_mk (st := sBeat) l7 c7 k7
  have b7 := F7.binds (ps := ["_law_state", "_law_side"]) fun _ _ _ _ _ _ us hl => match us, hl with | [_, _], _ => rfl
  have g7 := PySem.W.mg_of X G a7
  have m_isinstance := PySem.W.mg_none_of X G z_isinstance
  have m_ValueError := PySem.W.mg_none_of X G z_ValueError
  have m_tuple := PySem.W.mg_none_of X G z_tuple
  have m_list := PySem.W.mg_none_of X G z_list
  have m_str := PySem.W.mg_none_of X G z_str
  have m_bool := PySem.W.mg_none_of X G z_bool
  have m_int := PySem.W.mg_none_of X G z_int
  have m_len := PySem.W.mg_none_of X G z_len
  have m_range := PySem.W.mg_none_of X G z_range
  have m_sum := PySem.W.mg_none_of X G z_sum
  have m_min := PySem.W.mg_none_of X G z_min
  have mcMOST_WHOLE : ∃ u, mg "MOST_WHOLE" = some u ∧ RelV (.int 1000000000000) u := ⟨_, PySem.W.mg_of X G nMOST_WHOLE, _, rfl⟩
  have TK : KTxt mg ⟨Cpe, Cc0, Cc1, Cc2, Cc3, Cc4, Cc5, Cc6⟩ := ⟨PySem.W.mg_of X G ype, PySem.W.mg_of X G yc0, PySem.W.mg_of X G yc1, PySem.W.mg_of X G yc2, PySem.W.mg_of X G yc3, PySem.W.mg_of X G yc4, PySem.W.mg_of X G yc5, PySem.W.mg_of X G yc6, m_isinstance, m_ValueError⟩
  have TE1 : ErrTxt K mg "BadShare" Cc1 := ⟨x1_x, PySem.W.mg_of X G yc1, x1_k, x1_b, x1_t⟩
  have KE1 : IsKind K ⟨Cpe, Cc0, Cc1, Cc2, Cc3, Cc4, Cc5, Cc6⟩ Cc1 1 := ⟨by decide, ⟨x1_hg, x1_hk, x1_b, x1_hd, x1_ha, q_hn, q_ht, x1_hm⟩, x1_pe, x1_k0, x1_k1, x1_k2, x1_k3, x1_k4, x1_k5, x1_k6, x1_kv⟩
  have T : TxtS K mg C := ⟨⟨pgC, hdC, poC, saC⟩, nW, nL, nT, PySem.W.mg_of X G aC⟩
  have Fg1 := fun_mk (st := sInit) lg1 cg1 kg1
  have bg1 := Fg1.binds (ps := ["self", "whole"]) fun _ _ _ _ _ _ us hl => match us, hl with | [_, _], _ => rfl
  have Fg2 := fun_mk (st := sNext) lg2 cg2 kg2
  have bg2 := Fg2.binds (ps := ["self", "share"]) fun _ _ _ _ _ _ us hl => match us, hl with | [_, _], _ => rfl
  have Fg3 := fun_mk (st := sRest) lg3 cg3 kg3
  have bg3 := Fg3.binds (ps := ["self"]) fun _ _ _ _ _ _ us hl => match us, hl with | [_], _ => rfl
  have Fg4 := fun_mk (st := sPuls) lg4 cg4 kg4
  have bg4 := Fg4.binds (ps := ["self"]) fun _ _ _ _ _ _ us hl => match us, hl with | [_], _ => rfl
  have Fun_b : Binds K (PySem.W.fnOf "_law_beat" "_law_beat" (defArgs sBeat) (defBody sBeat) (defScope sBeat) .none kV7 dc7 pm7 an7 (.ref cB) ct7) ["_law_state", "_law_side"] [] := b7
  refine ⟨_, [(cL, PL), (cB, PB)], spLaw2 K PL PB, fun p hp => ?_, fun p hp => ?_, fun p hp => ?_, fun s v => .of_eq rfl, fun H a ns _ _ hT hS => ⟨a, ns, rfl, hS, hT (cL, PL) List.mem_cons_self, hT (cB, PB) (List.mem_cons_of_mem _ List.mem_cons_self), fun _ => rfl⟩, fun base _ _ TB => ok_law l8 c8 (TB (cL, PL) List.mem_cons_self) l7 c7 (TB (cB, PB) (List.mem_cons_of_mem _ List.mem_cons_self)) hne k7 Fun_b g7 TK TE1 KE1 T mcMOST_WHOLE ⟨mkC, ag1, ig1, kcC⟩ Fg1 bg1 Fg2 bg2 ⟨ag2, ig2, kg2⟩ Fg3 bg3 ⟨ag3, ig3, kg3⟩ Fg4 bg4 ⟨ag4, ig4, kg4⟩ F1 b1 (PySem.W.mg_of X G a1) F2 b2 (PySem.W.mg_of X G a2) F3 b3 (PySem.W.mg_of X G a3) F4 b4 (PySem.W.mg_of X G a4) F5 b5 g5 F6 b6 g6 m_isinstance m_tuple m_list m_str m_bool m_int m_len m_range m_sum m_min⟩
  · rcases List.mem_cons.mp hp with rfl | hp
    · exact own cL PL _ _ _ _ _ _ l8 rfl rfl lc v11
    · rw [List.mem_singleton.mp hp]
      exact tabB
  · rcases List.mem_cons.mp hp with rfl | hp
    · exact nP
    · rw [List.mem_singleton.mp hp]
      exact nPB
  · rcases List.mem_cons.mp hp with rfl | hp
    · exact PySem.W.codeHd_of_K X hd
    · rw [List.mem_singleton.mp hp]
      exact PySem.W.codeHd_of_K X hdB
end K07
open PySem PySem.W PyProof.Rows
set_option maxRecDepth 100000 in
set_option maxHeartbeats 0 in
theorem PySem.Challenge.cw_pulseshare_k07_streams_holds : PySem.Challenge.rw_pulseshare_k07_streams.Holds := by
  w_on; o_law; k_head; (case hw => w_witness2)
  k_fill
  refine LamX.walk_ofOwn (l := PySem.Challenge.rw_pulseshare_k07_streams) (n := 63) (k := 6) (x := "_law_script") (CX := fun _ => L2.CX0) rfl (by decide) rfl ⟨rfl, by decide, by decide⟩ (by decide +kernel) (fun w h Y => PySem.W.km_in_of Y) ?F (fun _ _ _ _ _ h => h)
  case F =>
    intro w mg fa h Y KX G hmg own
    refine' K07.all_mk KX G hmg own ?a1 ?l1 ?c1 ?k1 ?a2 ?l2 ?c2 ?k2 ?a3 ?l3 ?c3 ?k3 ?a4 ?l4 ?c4 ?k4 ?a5 ?l5 ?c5 ?k5 ?a6 ?l6 ?c6 ?k6 ?a7 ?l7 ?c7 ?k7 ?a8 ?l8 ?c8 ?k8 ?lc ?v11 ?hd ?nP ?lcB ?v11B ?hdB ?nPB ?hne ?tabB ?z_isinstance ?z_ValueError ?z_tuple ?z_list ?z_str ?z_bool ?z_int ?z_len ?z_range ?z_sum ?z_min ?nMOST_WHOLE ?ype ?yc0 ?yc1 ?yc2 ?yc3 ?yc4 ?yc5 ?yc6 ?x1_x ?x1_k ?x1_b ?x1_t ?x1_hg ?x1_hk ?x1_hd ?x1_ha ?x1_hm ?x1_pe ?x1_k0 ?x1_k1 ?x1_k2 ?x1_k3 ?x1_k4 ?x1_k5 ?x1_k6 ?x1_kv ?q_hn ?q_ht ?aC ?ag1 ?ig1 ?lg1 ?cg1 ?kg1 ?ag2 ?ig2 ?lg2 ?cg2 ?kg2 ?ag3 ?ig3 ?lg3 ?cg3 ?kg3 ?ag4 ?ig4 ?lg4 ?cg4 ?kg4 ?pgC ?hdC ?poC ?saC ?mkC ?kcC ?nW ?nL ?nT
    (case a1 => k_is)
    (case l1 => k_is)
    (case c1 => k_is)
    (case k1 => k_is)
    (case a2 => k_is)
    (case l2 => k_is)
    (case c2 => k_is)
    (case k2 => k_is)
    (case a3 => k_is)
    (case l3 => k_is)
    (case c3 => k_is)
    (case k3 => k_is)
    (case a4 => k_is)
    (case l4 => k_is)
    (case c4 => k_is)
    (case k4 => k_is)
    (case a5 => k_is)
    (case l5 => k_is)
    (case c5 => k_is)
    (case k5 => k_is)
    (case a6 => k_is)
    (case l6 => k_is)
    (case c6 => k_is)
    (case k6 => k_is)
    (case a7 => k_is)
    (case l7 => k_is)
    (case c7 => k_is)
    (case k7 => k_is)
    (case a8 => k_is)
    (case l8 => k_is)
    (case c8 => k_is)
    (case k8 => k_is)
    (case lc => k_is)
    (case v11 => exact rfl)
    (case hd => kernel_rfl)
    (case nP => kernel_rfl)
    (case lcB => k_is)
    (case v11B => exact rfl)
    (case hdB => kernel_rfl)
    (case nPB => kernel_rfl)
    (case hne => decide)
    (case tabB => exact PySem.W.km_tabs_of Y _ (by decide))
    (case z_isinstance => k_is)
    (case z_ValueError => k_is)
    (case z_tuple => k_is)
    (case z_list => k_is)
    (case z_str => k_is)
    (case z_bool => k_is)
    (case z_int => k_is)
    (case z_len => k_is)
    (case z_range => k_is)
    (case z_sum => k_is)
    (case z_min => k_is)
    (case nMOST_WHOLE => k_is)
    (case ype => k_is)
    (case yc0 => k_is)
    (case yc1 => k_is)
    (case yc2 => k_is)
    (case yc3 => k_is)
    (case yc4 => k_is)
    (case yc5 => k_is)
    (case yc6 => k_is)
    (case x1_x => k_exc)
    (case x1_k => k_is)
    (case x1_b => k_is)
    (case x1_t => k_is)
    (case x1_hg => k_is)
    (case x1_hk => k_is)
    (case x1_hd => k_is)
    (case x1_ha => k_is)
    (case x1_hm => k_is)
    (case x1_pe => kts_exm)
    (case x1_k0 => kit_is)
    (case x1_k1 => kit_is)
    (case x1_k2 => kit_is)
    (case x1_k3 => kit_is)
    (case x1_k4 => kit_is)
    (case x1_k5 => kit_is)
    (case x1_k6 => kit_is)
    (case x1_kv => kit_is)
    (case q_hn => k_is)
    (case q_ht => k_is)
    (case aC => k_is)
    (case ag1 => k_is)
    (case ig1 => k_is)
    (case lg1 => k_is)
    (case cg1 => k_is)
    (case kg1 => k_is)
    (case ag2 => k_is)
    (case ig2 => k_is)
    (case lg2 => k_is)
    (case cg2 => k_is)
    (case kg2 => k_is)
    (case ag3 => k_is)
    (case ig3 => k_is)
    (case lg3 => k_is)
    (case cg3 => k_is)
    (case kg3 => k_is)
    (case ag4 => k_is)
    (case ig4 => k_is)
    (case lg4 => k_is)
    (case cg4 => k_is)
    (case kg4 => k_is)
    (case pgC => k_is)
    (case hdC => k_is)
    (case poC => k_is)
    (case saC => k_is)
    (case mkC => k_is)
    (case kcC => k_is)
    (case nW => k_is)
    (case nL => k_is)
    (case nT => k_is)
