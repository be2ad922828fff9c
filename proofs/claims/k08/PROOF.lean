import PyProof.Rows.All
import Wide.All
import OpenK.AllK
import Wide.FinOn
import HandS.ForExc
import HandS.Comp
import HandS.IsInst
import HandS.Wide
import PySem.Challenge.RW_pulseshare_k08_whole_never_a_pulse_apart
set_option Elab.async false
set_option linter.all false
set_option maxRecDepth 100000
set_option maxHeartbeats 2000000
namespace Cm
open PySem PySem.Spec PyProof.Rows L2
/-! ### heaps -/
/-- all that is tracked but p stands as it did -/
def But (p : Addr) (H H' : Hp) : Prop := ∀ b o, H b = some o → b ≠ p → H' b = some o
theorem But.refl (p : Addr) (H : Hp) : But p H H := fun _ _ h _ => h
theorem But.trans {p : Addr} {H H1 H2 : Hp} (a : But p H H1) (b : But p H1 H2) : But p H H2 := fun c o h n => b c o (a c o h n) n
theorem But.of_same {p : Addr} {H H1 : Hp} (a : Same H H1) : But p H H1 := fun c o h _ => a c o h
theorem But.upd {p : Addr} {H : Hp} {o : HO} : But p H (upd H p o) := fun b z e n => by
  rw [upd_ne n]
  exact e
theorem same_upd {H : Hp} {p : Addr} {o : HO} (h : H p = none) : Same H (upd H p o) := fun b x e => by
  rw [upd_ne (ne_of_none e h)]
  exact e
theorem But.free {p : Addr} {H H' : Hp} (e : But p H H') {l : Addr} (n : l ≠ p) (h : H' l = Option.none) : H l = Option.none := by
  cases q : H l with
  | none => rfl
  | some o =>
    rw [e l o q n] at h
    cases h
/-- a list that is read, not the one at p that may be written -/
theorem But.seq {K : PySem.W.Frag} {p : Addr} {H H' : Hp} {a : Addr} {xs : List V} (e : But p H H') (n : a ≠ p) (h : SqL K H a xs) : SqL K H' a xs := by
  rcases h with (h | ⟨o, h⟩) | h
  · exact .inl (.inl (e _ _ h n))
  · exact .inl (.inr ⟨o, e _ _ h n⟩)
  · exact .inr h
theorem int_at {ns : List Int} {i : Nat} {y : V} (hi : (ns.map V.int)[i]? = some y) : ∃ z, ns[i]? = some z ∧ y = V.int z := by
  rw [List.getElem?_map] at hi
  cases e : ns[i]? with
  | none =>
    rw [e] at hi
    cases hi
  | some z =>
    rw [e] at hi
    exact ⟨z, rfl, (Option.some.inj hi).symm⟩
/-! ### the law's drawing state -/
def stV (a : Addr) (c m l : Int) : List V := [.ref a, .int c, .int m, .int l]
/-- the script's list: known, never written -/
def Scr (K : PySem.W.Frag) (H : Hp) (a : Addr) (xs : List V) : Prop := (∃ o, H a = some (.frz o (.lst xs))) ∨ ∀ H', SqL K H' a xs
theorem Scr.seq {K : PySem.W.Frag} {H : Hp} {a : Addr} {xs : List V} (h : Scr K H a xs) : SqL K H a xs := by
  rcases h with ⟨o, h⟩ | h
  · exact .inl (.inr ⟨o, h⟩)
  · exact h H
theorem Scr.of {K : PySem.W.Frag} {H : Hp} {a : Addr} {xs : List V} (hO : Only H) (h : SqL K H a xs) : Scr K H a xs := by
  rcases h with (h | ⟨o, h⟩) | h
  · rcases hO a with z | ⟨o, ys, z⟩
    · rw [z] at h
      cases h
    · rw [z] at h
      cases h
  · exact .inl ⟨o, h⟩
  · exact .inr fun _ => .inr h
theorem Scr.same {K : PySem.W.Frag} {H H' : Hp} {a : Addr} {xs : List V} (h : Scr K H a xs) (e : Same H H') : Scr K H' a xs := by
  rcases h with ⟨o, h⟩ | h
  · exact .inl ⟨o, e _ _ h⟩
  · exact .inr h
theorem Scr.but {K : PySem.W.Frag} {H H' : Hp} {a p : Addr} {xs ys : List V} (h : Scr K H a xs) (e : But p H H') (hp : H p = some (.lst ys)) : Scr K H' a xs := by
  rcases h with ⟨o, h⟩ | h
  · exact .inl ⟨o, e _ _ h (ne_of h hp (by intro z; cases z))⟩
  · exact .inr h
/-- at p stands the drawing state over the script at a -/
def StAt (K : PySem.W.Frag) (p a : Addr) (ns : List Int) (H : Hp) : Prop :=
  ∃ c m l : Int, H p = some (.lst (stV a c m l)) ∧ 0 ≤ c ∧ 0 ≤ m ∧ m < 2147483647 ∧ 0 ≤ l ∧ Scr K H a (ns.map V.int)
theorem StAt.same {K : PySem.W.Frag} {p a : Addr} {ns : List Int} {H H' : Hp} (h : StAt K p a ns H) (e : Same H H') : StAt K p a ns H' := by
  obtain ⟨c, m, l, h1, h2, h3, h4, h5, h7⟩ := h
  exact ⟨c, m, l, e _ _ h1, h2, h3, h4, h5, h7.same e⟩
theorem StAt.ne {K : PySem.W.Frag} {p a b : Addr} {ns : List Int} {H : Hp} (h : StAt K p a ns H) (n : H b = none) : p ≠ b := by
  obtain ⟨c, m, l, h1, _⟩ := h
  exact ne_of_none h1 n
/-- another list is written -/
theorem StAt.but {K : PySem.W.Frag} {p a b : Addr} {ns : List Int} {H H' : Hp} {ys : List V} (h : StAt K p a ns H) (e : But b H H') (n : b ≠ p) (hb : H b = some (.lst ys)) : StAt K p a ns H' := by
  obtain ⟨c, m, l, h1, h2, h3, h4, h5, h7⟩ := h
  exact ⟨c, m, l, e _ _ h1 n.symm, h2, h3, h4, h5, h7.but e hb⟩
def spStart (K : PySem.W.Frag) : Sp := fun vs H Q _ => ∃ (a : Addr) (ns : List Int), vs = [.ref a] ∧ Scr K H a (ns.map V.int) ∧
  ∀ H' p, Same H H' → H p = none → StAt K p a ns H' → Q (.ref p) H'
/-- a drawn number, from 0 to many less one -/
def spDrawn (K : PySem.W.Frag) : Sp := fun vs H Q _ => ∃ (p a : Addr) (ns : List Int) (many : Int), vs = [.ref p, .int many] ∧ StAt K p a ns H ∧ 0 < many ∧ many.natAbs < 2 ^ 200 ∧
  ∀ H' v, But p H H' → StAt K p a ns H' → 0 ≤ v → v < many → Q (.int v) H'
/-- two things that are the same: flat ones, or lists or tuples of flat ones -/
inductive Flat : V → Prop where
  | int (i : Int) : Flat (.int i)
  | bl (b : Bool) : Flat (.bl b)
  | non : Flat .non
  | str (x : Str) : Flat (.str x)
inductive Twin (K : PySem.W.Frag) (H : Hp) : V → V → Prop where
  | flat {x : V} (h : Flat x) : Twin K H x x
  | lst {p q : Addr} {xs : List V} (hp : H p = some (.lst xs)) (hq : H q = some (.lst xs)) (hf : ∀ x ∈ xs, Flat x) (hl : xs.length ≤ 1000000) : Twin K H (.ref p) (.ref q)
  | tup {p q : Addr} {xs : List V} (hp : H p = some (.tup xs)) (hq : H q = some (.tup xs)) (hf : ∀ x ∈ xs, Flat x) (hl : xs.length ≤ 1000000) : Twin K H (.ref p) (.ref q)
def spFlat : Sp := fun vs H Q _ => ∃ x : V, vs = [x, x] ∧ Flat x ∧ ∀ H', Same H H' → Q (.bl true) H'
def spSame (K : PySem.W.Frag) : Sp := fun vs H Q _ => ∃ x y : V, vs = [x, y] ∧ Twin K H x y ∧ ∀ H', Same H H' → Q (.bl true) H'
/-! ### numbers -/
theorem mod_lt {a b : Int} (h : 0 < b) : 0 ≤ a % b ∧ a % b < b := ⟨Int.emod_nonneg _ (by omega), Int.emod_lt_of_pos _ h⟩
end Cm
namespace Cm
open PySem PySem.Spec PyProof.Rows L2
/-! ### the even frame's beats -/
/-- whether beat n of the endless row of a share is on -/
def bitE (b k n : Int) : Int := (n + 1) * k / b - n * k / b
theorem bit_step {b k : Int} (hb : 0 < b) (h0 : 0 ≤ k) (hk : k ≤ b) (n : Int) :
    (n * k % b + k < b ∧ bitE b k n = 0 ∧ (n + 1) * k % b = n * k % b + k) ∨ (b ≤ n * k % b + k ∧ bitE b k n = 1 ∧ (n + 1) * k % b = n * k % b + k - b) := by
  have e0 : b * (n * k / b) + n * k % b = n * k := Int.mul_ediv_add_emod _ _
  have l0 : 0 ≤ n * k % b := Int.emod_nonneg _ (by omega)
  have l1 : n * k % b < b := Int.emod_lt_of_pos _ hb
  have e1 : (n + 1) * k = (n * k % b + k) + b * (n * k / b) := by rw [Int.add_mul, Int.one_mul]; omega
  unfold bitE
  rw [e1, Int.add_mul_ediv_left _ _ (by omega : b ≠ 0), Int.add_mul_emod_self_left]
  by_cases c : n * k % b + k < b
  · left
    rw [Int.ediv_eq_zero_of_lt (by omega) c, Int.emod_eq_of_lt (by omega) c]
    exact ⟨c, by omega, rfl⟩
  · right
    have e2 : n * k % b + k = (n * k % b + k - b) + b * 1 := by omega
    have d1 : (n * k % b + k) / b = 1 := by
      rw [e2, Int.add_mul_ediv_left _ _ (by omega : b ≠ 0)]
      have z : (n * k % b + k - b) / b = 0 := Int.ediv_eq_zero_of_lt (by omega) (by omega)
      rw [z]
      rfl
    have d2 : (n * k % b + k) % b = n * k % b + k - b := by
      have z : (n * k % b + k - b + b * 1) % b = n * k % b + k - b := by
        rw [Int.add_mul_emod_self_left]
        exact Int.emod_eq_of_lt (by omega) (by omega)
      rw [← e2] at z
      exact z
    exact ⟨by omega, by omega, d2⟩
theorem bit_01 {b k : Int} (hb : 0 < b) (h0 : 0 ≤ k) (hk : k ≤ b) (n : Int) : bitE b k n = 0 ∨ bitE b k n = 1 := by
  rcases bit_step hb h0 hk n with ⟨_, h, _⟩ | ⟨_, h, _⟩
  · exact .inl h
  · exact .inr h
/-- the even frame of a share by a turn: its first n beats -/
def evenN (b k t : Int) (n : Nat) : List Int := (List.range n).map fun (i : Nat) => bitE b k (t + (i : Int))
def evenL (b k t : Int) : List Int := evenN b k t b.toNat
theorem evenN_len (b k t : Int) (n : Nat) : (evenN b k t n).length = n := by
  unfold evenN
  rw [List.length_map, List.length_range]
theorem evenN_succ (b k t : Int) (n : Nat) : evenN b k t (n + 1) = evenN b k t n ++ [bitE b k (t + (n : Int))] := by
  unfold evenN
  rw [List.range_succ, List.map_append]
  rfl
theorem evenN_sum (b k t : Int) (n : Nat) : (evenN b k t n).sum = (t + (n : Int)) * k / b - t * k / b := by
  induction n with
  | zero =>
    show (0 : Int) = _
    rw [show t + ((0 : Nat) : Int) = t by omega]
    omega
  | succ n ih =>
    rw [evenN_succ, List.sum_append, ih]
    have e : ([bitE b k (t + (n : Int))] : List Int).sum = bitE b k (t + (n : Int)) := by
      show bitE b k (t + (n : Int)) + 0 = _
      omega
    rw [e]
    unfold bitE
    rw [show t + (n : Int) + 1 = t + ((n + 1 : Nat) : Int) by omega]
    omega
theorem evenL_sum {b k t : Int} (hb : 0 < b) : (evenL b k t).sum = k := by
  unfold evenL
  rw [evenN_sum, show ((b.toNat : Nat) : Int) = b by omega, Int.add_mul, Int.add_mul_ediv_left _ _ (by omega : b ≠ 0)]
  omega
theorem evenL_len {b k t : Int} : (evenL b k t).length = b.toNat := evenN_len _ _ _ _
/-! ### promises of the share, the law's own frame, the program's -/
def GoodShare (b k : Int) : Prop := 1 ≤ b ∧ b ≤ 64 ∧ 0 ≤ k ∧ k ≤ b
def spShare (K : PySem.W.Frag) : Sp := fun vs H Q _ => ∃ (p a : Addr) (ns : List Int), vs = [.ref p] ∧ StAt K p a ns H ∧
  ∀ H' t b k, But p H H' → StAt K p a ns H' → H t = none → H' t = some (.tup [.int b, .int k]) → GoodShare b k → Q (.ref t) H'
/-- what makes the list of an even frame -/
def spMake : Sp := fun vs H Q _ => ∃ (b k t : Int), vs = [.int b, .int k, .int t] ∧ GoodShare b k ∧ t.natAbs < 2 ^ 200 ∧
  ∀ H' r, Same H H' → H r = none → H' r = some (.lst ((evenL b k t).map V.int)) → Q (.ref r) H'
def spCheck : Sp := fun vs H Q _ => ∃ (b k : Int), vs = [.int b, .int k] ∧ GoodShare b k ∧ Q .non H
def spAhead : Sp := fun vs H Q _ => ∃ (n b k : Int), vs = [.int n, .int b, .int k] ∧ GoodShare b k ∧ Q (.int (n * k / b)) H
theorem good_div {b k : Int} (h : GoodShare b k) : CDiv 0 b := ⟨by have := h.1; omega, by have := h.2.1; omega⟩
end Cm
namespace Cm
open PySem PySem.Spec PyProof.Rows L2
def spLaw (K : PySem.W.Frag) : Sp := fun vs H Q _ => ∃ (a : Addr) (ns : List Int), vs = [.ref a] ∧ Scr K H a (ns.map V.int) ∧ ∀ H', Q (.bl true) H'
theorem flat_ints (ns : List Int) : ∀ x ∈ ns.map V.int, Flat x := fun x hx => by
  obtain ⟨i, _, rfl⟩ := List.mem_map.mp hx
  exact .int i
theorem StAt.nlst {K : PySem.W.Frag} {p a b : Addr} {ns : List Int} {H : Hp} (h : StAt K p a ns H) (n : H b = none) : b ≠ p := (h.ne n).symm
end Cm
namespace Cm
open PySem PySem.Spec PyProof.Rows L2
/-! ### lists of ints as data -/
def intsD (xs : List Int) : PyData := .list (xs.map PyData.int)
theorem dpall_ints (K : PySem.W.Frag) (H : Hp) : ∀ xs : List Int, DpAll K H (xs.map V.int) (xs.map PyData.int)
  | [] => .nil
  | x :: xs => .cons (.int x) (dpall_ints K H xs)
theorem dp_ints {K : PySem.W.Frag} {H : Hp} {a : Addr} {xs : List Int} (h : SqL K H a (xs.map V.int)) : Dp K H (.ref a) (intsD xs) := .lst h (dpall_ints K H xs)
theorem lay_ints : ∀ xs : List Int, PyData.canLayAll0 (xs.map PyData.int) = true
  | [] => by simp only [List.map_nil, PyData.canLayAll0]
  | x :: xs => by
    rw [List.map_cons, PyData.canLayAll0, PyData.canLay0, lay_ints xs]
    rfl
theorem depth_ints : ∀ xs : List Int, PyData.depthAll (xs.map PyData.int) = 0
  | [] => by simp only [List.map_nil, PyData.depthAll]
  | x :: xs => by
    rw [List.map_cons, PyData.depthAll, PyData.depth, depth_ints xs]
    rfl
theorem shaped_ints (xs : List Int) : SeqAt.shaped (intsD xs) = true := by
  unfold SeqAt.shaped intsD
  rw [PyData.canLay0, lay_ints, PyData.depth, depth_ints]
  decide
theorem eqvall_ints : ∀ xs ys : List Int, PyData.eqvAll (xs.map PyData.int) (ys.map PyData.int) = decide (xs = ys)
  | [], [] => by
    rw [List.map_nil, PyData.eqvAll]
    rfl
  | [], y :: ys => by
    rw [List.map_nil, List.map_cons, PyData.eqvAll]
    rfl
  | x :: xs, [] => by
    rw [List.map_nil, List.map_cons, PyData.eqvAll]
    rfl
  | x :: xs, y :: ys => by
    rw [List.map_cons, List.map_cons, PyData.eqvAll, PyData.eqv, eqvall_ints xs ys]
    by_cases h : x = y
    · subst h
      by_cases h2 : xs = ys
      · subst h2
        simp
      · simp [h2]
    · simp [h]
theorem eqv_ints (xs ys : List Int) : PyData.eqv (intsD xs) (intsD ys) = decide (xs = ys) := by
  unfold intsD
  rw [PyData.eqv, eqvall_ints]
theorem cutV_nat {xs : List V} {i j : Nat} (hij : i ≤ j) (hj : j ≤ xs.length) : cutV xs (some (i : Int)) (some (j : Int)) = (xs.drop i).take (j - i) := by
  unfold cutV
  rw [HT.sIx_nat, HT.sIx_nat, Nat.min_eq_left hj, Nat.min_eq_left (show i ≤ xs.length by omega)]
theorem cut_ints {xs : List Int} {i j : Nat} (hij : i ≤ j) (hj : j ≤ xs.length) : cutV (xs.map V.int) (some (i : Int)) (some (j : Int)) = ((xs.drop i).take (j - i)).map V.int := by
  rw [cutV_nat hij (by rw [List.length_map]; exact hj), List.map_take, List.map_drop]
theorem sum_cut (xs : List Int) (i j : Nat) (hij : i ≤ j) : ((xs.drop i).take (j - i)).sum = (xs.take j).sum - (xs.take i).sum := by
  have e : xs.take j = xs.take i ++ (xs.drop i).take (j - i) := by
    rw [← List.take_add]
    congr 1
    omega
  rw [e, List.sum_append]
  omega
end Cm
namespace Cm
open PySem PySem.Spec PyProof.Rows L2
theorem iteTd {c A B : Prop} [Decidable c] (hc : c) (h : A) : if decide c = true then A else B := by
  rw [decide_eq_true hc]
  exact iteT h
theorem iteFd {c A B : Prop} [Decidable c] (hc : ¬ c) (h : B) : if decide c = true then A else B := by
  rw [decide_eq_false hc]
  exact iteF h
end Cm
namespace Cm
open PySem PySem.Spec PyProof.Rows L2
/-! ### a stream's three numbers -/
def sF (w l t : Int) : List (Str × V) := [("whole", .int w), ("left", .int l), ("told", .int t)]
def SAt (C : Addr) (H : Hp) (x : Addr) (w l t : Int) : Prop := ∃ dx, H x = some (.ins C dx (sF w l t))
theorem lk_here {k : Str} {v : V} {r : List (Str × V)} : List.lookup k ((k, v) :: r) = some v := by
  have e : (k == k) = true := beq_self_eq_true k
  simp only [List.lookup, e]
theorem lk_past {k g : Str} {v : V} {r : List (Str × V)} (h : (k == g) = false) : List.lookup k ((g, v) :: r) = List.lookup k r := by
  simp only [List.lookup, h]
theorem put_here {f : Str} {v x : V} {r : List (Str × V)} : putF f v ((f, x) :: r) = (f, v) :: r := if_pos rfl
theorem put_past {f g : Str} {v x : V} {r : List (Str × V)} (h : ¬ g = f) : putF f v ((g, x) :: r) = (g, x) :: putF f v r := if_neg h
theorem sF_whole (w l t : Int) : (sF w l t).lookup ("whole" : Str) = some (.int w) := lk_here
theorem sF_left (w l t : Int) : (sF w l t).lookup ("left" : Str) = some (.int l) := (lk_past (by decide +kernel)).trans lk_here
theorem sF_told (w l t : Int) : (sF w l t).lookup ("told" : Str) = some (.int t) := (lk_past (by decide +kernel)).trans ((lk_past (by decide +kernel)).trans lk_here)
theorem sF_no (w l t : Int) {m : Str} (h1 : (m == "whole") = false) (h2 : (m == "left") = false) (h3 : (m == "told") = false) : (sF w l t).lookup m = none := (lk_past h1).trans ((lk_past h2).trans ((lk_past h3).trans rfl))
theorem sF_put_left (w l t y : Int) : putF "left" (.int y) (sF w l t) = sF w y t := (put_past (by decide +kernel)).trans (congrArg _ put_here)
theorem sF_put_told (w l t y : Int) : putF "told" (.int y) (sF w l t) = sF w l y := (put_past (by decide +kernel)).trans (congrArg _ ((put_past (by decide +kernel)).trans (congrArg _ put_here)))
theorem sF_new1 (w : Int) : putF "left" (.int 0) (putF "whole" (.int w) []) = ([(("whole" : Str), V.int w), (("left" : Str), V.int 0)] : List (Str × V)) := (put_past (by decide +kernel)).trans rfl
theorem sF_new (w : Int) : putF "told" (.int 0) (putF "left" (.int 0) (putF "whole" (.int w) [])) = sF w 0 0 := by
  rw [sF_new1]
  exact (put_past (by decide +kernel)).trans (congrArg _ ((put_past (by decide +kernel)).trans rfl))
/-- what the top has written of the class of streams -/
structure TxtS (K : PySem.W.Frag) (mg : Str → Option Value) (C : Addr) : Prop where
  cl : Cls K C
  nW : NoAttr K C "whole"
  nL : NoAttr K C "left"
  nT : NoAttr K C "told"
  gC : mg "Stream" = some (.ref C)
def spInit (C : Addr) : Sp := fun vs H Q _ => ∃ (p dx : Addr) (wh : Int), vs = [.ref p, .int wh] ∧ H p = some (.ins C dx []) ∧ 1 ≤ wh ∧ wh ≤ 1000000000000 ∧
  ∀ H' : Hp, SAt C H' p wh 0 0 → (∀ b o, H b = some o → b ≠ p → H' b = some o) → Q .non H'
def spNext (C : Addr) : Sp := fun vs H Q _ => ∃ (p : Addr) (wh l t sh : Int), vs = [.ref p, .int sh] ∧ SAt C H p wh l t ∧ 0 ≤ sh ∧ sh ≤ wh ∧ 0 ≤ l ∧ l < wh ∧
  ∀ H' : Hp, But p H H' → SAt C H' p wh ((l + sh) % wh) (t + (l + sh) / wh) → Q (.int ((l + sh) / wh)) H'
/-- the first n pulses of a row of shares -/
def pulN (wh : Int) (ss : List Int) (n : Nat) : List Int := (List.range n).map fun (i : Nat) => (ss.take (i + 1)).sum / wh - (ss.take i).sum / wh
theorem pulN_len (wh : Int) (ss : List Int) (n : Nat) : (pulN wh ss n).length = n := by
  unfold pulN
  rw [List.length_map, List.length_range]
theorem pulN_succ (wh : Int) (ss : List Int) (n : Nat) : pulN wh ss (n + 1) = pulN wh ss n ++ [(ss.take (n + 1)).sum / wh - (ss.take n).sum / wh] := by
  unfold pulN
  rw [List.range_succ, List.map_append]
  rfl
theorem pul_step {wh z : Int} {ss : List Int} {i : Nat} (hw : 0 < wh) (hz : ss[i]? = some z) :
    ((ss.take i).sum % wh + z) % wh = (ss.take (i + 1)).sum % wh ∧ (ss.take i).sum / wh + ((ss.take i).sum % wh + z) / wh = (ss.take (i + 1)).sum / wh ∧
    pulN wh ss (i + 1) = pulN wh ss i ++ [((ss.take i).sum % wh + z) / wh] := by
  have e0 : (ss.take (i + 1)).sum = (ss.take i).sum + z := sum_take hz
  have e1 : wh * ((ss.take i).sum / wh) + (ss.take i).sum % wh = (ss.take i).sum := Int.mul_ediv_add_emod _ _
  have e2 : (ss.take (i + 1)).sum = ((ss.take i).sum % wh + z) + wh * ((ss.take i).sum / wh) := by omega
  have e3 : (ss.take (i + 1)).sum / wh = ((ss.take i).sum % wh + z) / wh + (ss.take i).sum / wh := by
    rw [e2, Int.add_mul_ediv_left _ _ (by omega : wh ≠ 0)]
  refine ⟨?_, by omega, ?_⟩
  · rw [e2, Int.add_mul_emod_self_left]
  · rw [pulN_succ, e3]
    congr 2
    omega
def spPulsed (K : PySem.W.Frag) : Sp := fun vs H Q _ => ∃ (wh : Int) (q : Addr) (ss : List Int), vs = [.int wh, .ref q] ∧ 1 ≤ wh ∧ wh ≤ 1000000000000 ∧ H q = some (.lst (ss.map V.int)) ∧ (∀ z ∈ ss, 0 ≤ z ∧ z ≤ wh) ∧ ss.length ≤ 1000 ∧
  ∀ H' r, Same H H' → H r = none → H' r = some (.lst ((pulN wh ss ss.length).map V.int)) → Q (.ref r) H'
end Cm
namespace Cm
open PySem PySem.Spec PyProof.Rows L2
theorem pulN_sum (wh : Int) (ss : List Int) (n : Nat) : (pulN wh ss n).sum = (ss.take n).sum / wh := by
  induction n with
  | zero =>
    show (0 : Int) = (0 : Int) / wh
    rw [Int.zero_ediv]
  | succ n ih =>
    rw [pulN_succ, List.sum_append, ih]
    have e : ([(ss.take (n + 1)).sum / wh - (ss.take n).sum / wh] : List Int).sum = (ss.take (n + 1)).sum / wh - (ss.take n).sum / wh := by
      show _ + (0 : Int) = _
      omega
    rw [e]
    omega
theorem pulN_take (wh : Int) (ss : List Int) (n j : Nat) (h : j ≤ n) : (pulN wh ss n).take j = pulN wh ss j := by
  unfold pulN
  rw [← List.map_take, List.take_range, Nat.min_eq_left h]
theorem apart {wh : Int} (hw : 0 < wh) (ss : List Int) {i j n : Nat} (hij : i ≤ j) (hj : j ≤ n) :
    0 - wh < wh * (((pulN wh ss n).drop i).take (j - i)).sum - ((ss.drop i).take (j - i)).sum ∧ wh * (((pulN wh ss n).drop i).take (j - i)).sum - ((ss.drop i).take (j - i)).sum < wh := by
  rw [sum_cut _ _ _ hij, sum_cut _ _ _ hij, pulN_take _ _ _ _ hj, pulN_take _ _ _ _ (by omega), pulN_sum, pulN_sum, Int.mul_sub]
  have e1 : wh * ((ss.take j).sum / wh) + (ss.take j).sum % wh = (ss.take j).sum := Int.mul_ediv_add_emod _ _
  have e2 : wh * ((ss.take i).sum / wh) + (ss.take i).sum % wh = (ss.take i).sum := Int.mul_ediv_add_emod _ _
  have l1 := mod_lt (a := (ss.take j).sum) hw
  have l2 := mod_lt (a := (ss.take i).sum) hw
  omega
/-- one share throughout -/
theorem take_rep (k : Int) (n j : Nat) (h : j ≤ n) : ((List.replicate n k).take j).sum = (j : Int) * k := by
  rw [List.take_replicate, Nat.min_eq_left h]
  induction j with
  | zero =>
    rw [List.replicate_zero]
    show (0 : Int) = ((0 : Nat) : Int) * k
    rw [show ((0 : Nat) : Int) = 0 from rfl, Int.zero_mul]
  | succ j ih =>
    rw [List.replicate_succ, List.sum_cons, ih (by omega)]
    rw [show ((j + 1 : Nat) : Int) = (j : Int) + 1 by omega, Int.add_mul, Int.one_mul]
    omega
theorem bitE_round {b k n : Int} (hb : 0 < b) : bitE b k (n + b) = bitE b k n := by
  unfold bitE
  rw [show (n + b + 1) * k = (n + 1) * k + b * k by rw [show n + b + 1 = (n + 1) + b by omega, Int.add_mul], Int.add_mul n b k, Int.add_mul_ediv_left _ _ (by omega : b ≠ 0), Int.add_mul_ediv_left _ _ (by omega : b ≠ 0)]
  omega
theorem rep3 (xs : List V) : (List.replicate 3 xs).flatten = xs ++ (xs ++ xs) := by
  simp [List.replicate]
theorem evenN_add (b k : Int) (n m : Nat) : evenN b k 0 (n + m) = evenN b k 0 n ++ evenN b k n m := by
  induction m with
  | zero =>
    rw [Nat.add_zero]
    show _ = evenN b k 0 n ++ []
    rw [List.append_nil]
  | succ m ih =>
    rw [← Nat.add_assoc, evenN_succ, ih, evenN_succ, List.append_assoc, show (0 : Int) + ((n + m : Nat) : Int) = (n : Int) + (m : Int) by omega]
theorem evenN_round {b k : Int} (hb : 0 < b) (t : Int) (n : Nat) : evenN b k (t + b) n = evenN b k t n := by
  unfold evenN
  refine List.map_congr_left fun i _ => ?_
  rw [show t + b + (i : Int) = t + (i : Int) + b by omega, bitE_round hb]
theorem rep_even {b k : Int} (hb : 0 < b) : pulN b (List.replicate (3 * b.toNat) k) (3 * b.toNat) = evenL b k 0 ++ (evenL b k 0 ++ evenL b k 0) := by
  have e : pulN b (List.replicate (3 * b.toNat) k) (3 * b.toNat) = evenN b k 0 (3 * b.toNat) := by
    unfold pulN evenN
    refine List.map_congr_left fun i hi => ?_
    have hi' : i < 3 * b.toNat := List.mem_range.mp hi
    rw [take_rep _ _ _ (by omega), take_rep _ _ _ (by omega)]
    unfold bitE
    rw [show (0 : Int) + (i : Int) = (i : Int) by omega, show ((i + 1 : Nat) : Int) = (i : Int) + 1 by omega]
  have hn : ((b.toNat : Nat) : Int) = b := by omega
  rw [e, show 3 * b.toNat = b.toNat + (b.toNat + b.toNat) by omega, evenN_add]
  have e2 : ∀ m, evenN b k ((b.toNat : Nat) : Int) m = evenN b k 0 m := fun m => by
    rw [hn]
    have := evenN_round hb (k := k) 0 m
    rw [show (0 : Int) + b = b by omega] at this
    exact this
  rw [e2, evenN_add, e2]
  rfl
end Cm
namespace K08
open PySem PySem.Spec PyProof.Rows L2 Cm
def topS (i : Nat) : Stmt := PySem.Challenge.pw_pulseshare_k08_whole_never_a_pulse_apart.main.body.getD i (.Pass ⟨0, 0, 0, 0⟩)
abbrev sInit : Stmt := inClass (topS 5) 0
abbrev sNext : Stmt := inClass (topS 5) 1
abbrev sPulsed : Stmt := topS 6
abbrev sCheck : Stmt := topS 9
abbrev sAhead : Stmt := topS 10
abbrev sEven : Stmt := topS 11
abbrev sStart : Stmt := topS 13
abbrev sDrawn : Stmt := topS 14
abbrev sShare : Stmt := topS 15
abbrev sLaw : Stmt := topS 18
theorem scStart : FnScope ["_law_script", "_law_mixed", "_law_cell"] ["_law_script"] (defScope sStart) := ⟨rfl, rfl, rfl, by decide +kernel, rfl, by decide +kernel, by decide +kernel⟩
theorem scDrawn : FnScope ["_law_state", "_law_many", "_law_found", "_law_cell"] ["_law_state", "_law_many"] (defScope sDrawn) := ⟨rfl, rfl, rfl, by decide +kernel, rfl, by decide +kernel, by decide +kernel⟩
theorem scShare : FnScope ["_law_state", "_law_beats"] ["_law_state"] (defScope sShare) := ⟨rfl, rfl, rfl, by decide +kernel, rfl, by decide +kernel, by decide +kernel⟩
theorem scCheck : FnScope ["beats", "pulses"] ["beats", "pulses"] (defScope sCheck) := ⟨rfl, rfl, rfl, by decide +kernel, rfl, by decide +kernel, by decide +kernel⟩
theorem scAhead : FnScope ["at", "beats", "pulses"] ["at", "beats", "pulses"] (defScope sAhead) := ⟨rfl, rfl, rfl, by decide +kernel, rfl, by decide +kernel, by decide +kernel⟩
theorem scEven : FnScope ["beats", "pulses", "turn", "frame", "place", "ahead", "behind"] ["beats", "pulses", "turn"] (defScope sEven) := ⟨rfl, rfl, rfl, by decide +kernel, rfl, by decide +kernel, by decide +kernel⟩
theorem scInit : FnScope ["self", "whole"] ["self", "whole"] (defScope sInit) := ⟨rfl, rfl, rfl, by decide +kernel, rfl, by decide +kernel, by decide +kernel⟩
theorem scNext : FnScope ["self", "share"] ["self", "share"] (defScope sNext) := ⟨rfl, rfl, rfl, by decide +kernel, rfl, by decide +kernel, by decide +kernel⟩
theorem scPulsed : FnScope ["whole", "shares", "stream", "told", "share"] ["whole", "shares"] (defScope sPulsed) := ⟨rfl, rfl, rfl, by decide +kernel, rfl, by decide +kernel, by decide +kernel⟩
theorem scLaw : FnScope ["_law_script", "_law_state", "_law_turn", "_law_whole", "_law_often", "_law_share_here", "_law_shares", "_law_k", "_law_told", "_law_again", "_law_begin", "_law_end", "_law_apart", "_law_beats", "_law_pulses"] ["_law_script"] (defScope sLaw) := ⟨rfl, rfl, rfl, by decide +kernel, rfl, by decide +kernel, by decide +kernel⟩
section
variable {P : Program} {w : World} {K : PySem.W.Frag} {mg : Str → Option Value} {base : Heap}
theorem ok_start {f : Addr} {fd : FuncData} (F : Fun K "_law_start" "_law_start" sStart f fd) : FnOk P w K mg base CX0 1 f fd ["_law_script"] (spStart K) := by
  refine F.ok scStart (fun vs H Q E h => ?_) (fun cdv A outer s H vs Q E hr h => ?_)
  · obtain ⟨a, ns, rfl, _⟩ := h
    rfl
  · obtain ⟨a, ns, rfl, hS, q⟩ := h
    refine ⟨_, pss_cons (ps_set (i := 1) scStart.nd rfl (.inl rfl) pe_int)
      (pss_cons (ps_for PassesOwn.never rfl (pi_list (pv 0)) (pg_name (i := 2) scStart.nd rfl (.inl rfl))
        (pss_one (ps_set (i := 1) scStart.nd rfl (.inl rfl) (pe_op op_mod (pe_op op_add (pe_op op_add (pe_op op_mul (pv 1) pe_int) (pv 2)) pe_int) pe_int))))
      (pss_one (ps_ret (pe_lst (pa_cons (pv 0) (pa_cons pe_int (pa_cons (pv 1) (pa_cons pe_int pa_nil)))))))), ?_⟩
    refine ⟨_, rfl, a, rfl, ⟨_, hS.seq⟩, for_list (K := K) (a := a) (xs := ns.map V.int) (fun i σ H' => ∃ (m : Int) (v : Option V), σ = [some (.ref a), some (.int m), v] ∧ 0 ≤ m ∧ m < 2147483647 ∧ H' = H)
      ⟨1, none, rfl, by decide, by decide, rfl⟩ (fun i σ H' _ ⟨_, _, _, _, _, e⟩ => by rw [e]; exact hS.seq) ?_ ?_⟩
    · rintro i y σ H' hi ⟨m, v, rfl, h0, h1, rfl⟩
      obtain ⟨z, hz, rfl⟩ := int_at hi
      refine ⟨_, rfl, _, _, rfl, rfl, .inl ⟨by omega, by omega⟩, _, rfl, _, _, rfl, rfl, _, _, rfl, rfl, _, _, rfl, rfl, (by show (0 : Int) < 2147483647; decide), ?_⟩
      exact ⟨_, _, rfl, (mod_lt (by decide)).1, (mod_lt (by decide)).2, rfl⟩
    · rintro σ H' ⟨m, v, rfl, h0, h1, rfl⟩
      refine ⟨_, rfl, _, rfl, (by show 4 ≤ sizeLine; decide), fun p hp => ?_⟩
      exact q _ p (same_upd hp) hp ⟨0, m, 0, upd_same, by decide, h0, h1, by decide, hS.same (same_upd hp)⟩
theorem ok_drawn {f : Addr} {fd : FuncData} (F : Fun K "_law_drawn" "_law_drawn" sDrawn f fd) (ml : mg "len" = none) : FnOk P w K mg base CX0 1 f fd ["_law_state", "_law_many"] (spDrawn K) := by
  refine F.ok scDrawn (fun vs H Q E h => ?_) (fun cdv A outer s H vs Q E hr h => ?_)
  · obtain ⟨p, a, ns, many, rfl, _⟩ := h
    rfl
  · obtain ⟨p, a, ns, many, rfl, ⟨c, m, l, hp, hc, hm0, hm1, hl, hS⟩, h0, hb, q⟩ := h
    refine ⟨_, pss_cons (ps_if (pt_cmpR op_gt (pe_ix ix_list (pv 0) pe_int (fun _ _ => rfl)) pe_int (nomark _))
        (pss_cons (ps_set (i := 2) scDrawn.nd rfl (.inl rfl) (pe_op op_mod (pe_ix ix_list (pv 0) pe_int (fun _ _ => rfl)) (pv 1)))
        (pss_cons (ps_asg (pe_op op_fdivW (pe_ix ix_list (pv 0) pe_int (fun _ _ => rfl)) (pv 1)) (pg_sub (pv 0) pe_int set_list))
        (pss_one (ps_ret (pv 2))))) pss_nil)
      (pss_cons (ps_asg (pe_op op_add (pe_ix ix_list (pv 0) pe_int (fun _ _ => rfl)) pe_int) (pg_sub (pv 0) pe_int set_list))
      (pss_cons (ps_if (pt_cmpR op_le (pe_ix ix_list (pv 0) pe_int (fun _ _ => rfl)) (pe_callB call_len_seq (by rfl) ml PySem.boot_len (pa_cons (pe_ix ix_list (pv 0) pe_int (fun _ _ => rfl)) pa_nil)) (nomark _))
         (pss_cons (ps_set (i := 3) scDrawn.nd rfl (.inl rfl) (pe_ix ix_list (pe_ix ix_list (pv 0) pe_int (fun _ _ => rfl)) (pe_op op_sub (pe_ix ix_list (pv 0) pe_int (fun _ _ => rfl)) pe_int) (fun _ _ => rfl)))
         (pss_cons (ps_asg (pe_ifExp (pt_cmpR op_ge (pv 3) (pe_op op_pow pe_int pe_int) (nomark _)) (pe_op op_fdivW (pv 3) (pv 1)) pe_int) (pg_sub (pv 0) pe_int set_list))
         (pss_one (ps_ret (pe_op op_mod (pv 3) (pv 1)))))) pss_nil)
      (pss_cons (ps_asg (pe_op op_mod (pe_op op_add (pe_op op_mul (pe_ix ix_list (pv 0) pe_int (fun _ _ => rfl)) pe_int) pe_int) pe_int) (pg_sub (pv 0) pe_int set_list))
      (pss_one (ps_ret (pe_op op_mod (pe_op op_fdiv (pe_ix ix_list (pv 0) pe_int (fun _ _ => rfl)) pe_int) (pv 1))))))), ?_⟩
    have hcd : CDivW l many := wide_div h0 hb (by decide) (by decide)
    refine ⟨_, rfl, p, _, _, _, rfl, rfl, SqL.of hp, atI_nat (j := 3) rfl, _, _, rfl, rfl, _, rfl, ite2 (fun e => ?_) (fun e => ?_)⟩
    · -- the rest of a great cell
      refine ⟨_, rfl, p, _, _, _, rfl, rfl, SqL.of hp, atI_nat (j := 3) rfl, _, rfl, _, _, rfl, rfl, h0, ?_⟩
      refine ⟨_, rfl, p, _, _, _, rfl, rfl, SqL.of hp, atI_nat (j := 3) rfl, _, rfl, _, _, rfl, rfl, hcd, _, rfl, p, _, _, 3, rfl, rfl, hp, rfl, ?_⟩
      refine ⟨_, rfl, q _ _ But.upd ⟨c, m, l / many, upd_same, hc, hm0, hm1, Int.ediv_nonneg hl (by omega), hS.but But.upd hp⟩ (mod_lt h0).1 (mod_lt h0).2⟩
    · -- the next cell
      refine ⟨_, rfl, p, _, _, _, rfl, rfl, SqL.of hp, atI_nat (j := 1) rfl, _, _, rfl, rfl, _, rfl, p, _, _, 1, rfl, rfl, hp, rfl, ?_⟩
      have hp1 : (upd H p (.lst (stV a (c + 1) m l))) p = some (.lst (stV a (c + 1) m l)) := upd_same
      have hS1 : SqL K (upd H p (.lst (stV a (c + 1) m l))) a (ns.map V.int) := (hS.but But.upd hp).seq
      refine ⟨_, rfl, p, _, _, _, rfl, rfl, SqL.of hp1, atI_nat (j := 1) rfl, _, rfl, p, _, _, _, rfl, rfl, SqL.of hp1, atI_nat (j := 0) rfl, a, _, rfl, .inl hS1, _, _, rfl, rfl, _, rfl, ite2 (fun e1 => ?_) (fun e1 => ?_)⟩
      · have e2 : c + 1 ≤ ((ns.map V.int).length : Int) := of_decide_eq_true e1
        rw [List.length_map] at e2
        obtain ⟨j, rfl⟩ : ∃ j : Nat, c = (j : Int) := ⟨c.toNat, by omega⟩
        have hj : j < ns.length := by omega
        have g : (ns.map V.int)[j]? = some (V.int ns[j]) := by
          rw [List.getElem?_map, List.getElem?_eq_getElem hj]
          rfl
        refine ⟨_, rfl, p, _, _, _, rfl, rfl, SqL.of hp1, atI_nat (j := 0) rfl, _, rfl, p, _, _, _, rfl, rfl, SqL.of hp1, atI_nat (j := 1) rfl, _, _, rfl, rfl, a, _, _, _, rfl, rfl, hS1, (by rw [show (j : Int) + 1 - 1 = (j : Int) by omega]; exact atI_nat g), ?_⟩
        refine ⟨_, rfl, _, _, rfl, rfl, ⟨by decide, by decide, by decide⟩, _, _, rfl, rfl, _, rfl, ite2 (fun e3 => ?_) (fun e3 => ?_)⟩
        · have e4 : (10 : Int) ^ ((18 : Int).toNat) ≤ ns[j] := of_decide_eq_true e3
          have e5 : 0 ≤ ns[j] := Int.le_trans (by decide) e4
          refine ⟨_, rfl, _, rfl, _, _, rfl, rfl, wide_div h0 hb (by decide) (by decide), _, rfl, p, _, _, 3, rfl, rfl, hp1, rfl, ?_⟩
          rw [upd_upd]
          refine ⟨_, rfl, _, rfl, _, _, rfl, rfl, h0, q _ _ But.upd ⟨_, m, _, upd_same, by omega, hm0, hm1, Int.ediv_nonneg e5 (by omega), hS.but But.upd hp⟩ (mod_lt h0).1 (mod_lt h0).2⟩
        · refine ⟨_, rfl, p, _, _, 3, rfl, rfl, hp1, rfl, ?_⟩
          rw [upd_upd]
          refine ⟨_, rfl, _, rfl, _, _, rfl, rfl, h0, q _ _ But.upd ⟨_, m, 0, upd_same, by omega, hm0, hm1, by decide, hS.but But.upd hp⟩ (mod_lt h0).1 (mod_lt h0).2⟩
      · refine ⟨_, rfl, p, _, _, _, rfl, rfl, SqL.of hp1, atI_nat (j := 2) rfl, _, _, rfl, rfl, .inl ⟨by omega, by omega⟩, _, _, rfl, rfl, _, _, rfl, rfl, (by show (0 : Int) < 2147483647; decide), _, rfl, p, _, _, 2, rfl, rfl, hp1, rfl, ?_⟩
        rw [upd_upd]
        refine ⟨_, rfl, p, _, _, _, rfl, rfl, SqL.of upd_same, atI_nat (j := 2) rfl, _, _, rfl, rfl, ⟨by decide, by decide⟩, _, rfl, _, _, rfl, rfl, h0, q _ _ But.upd ⟨_, _, l, upd_same, by omega, (mod_lt (by decide)).1, (mod_lt (by decide)).2, hl, hS.but But.upd hp⟩ (mod_lt h0).1 (mod_lt h0).2⟩
theorem ok_share {f fD : Addr} {fd fdD : FuncData} (F : Fun K "_law_share" "_law_share" sShare f fd) (FD : Fun K "_law_drawn" "_law_drawn" sDrawn fD fdD) (bD : Binds K fdD ["_law_state", "_law_many"] []) (gD : mg "_law_drawn" = some (.ref fD)) (ml : mg "len" = none) :
    FnOk P w K mg base CX0 2 f fd ["_law_state"] (spShare K) := by
  have GD : FnOk P w K mg base CX0 1 fD fdD ["_law_state", "_law_many"] (spDrawn K) := ok_drawn FD ml
  refine F.ok scShare (fun vs H Q E h => ?_) (fun cdv A outer s H vs Q E hr h => ?_)
  · obtain ⟨p, a, ns, rfl, _⟩ := h
    rfl
  · obtain ⟨p, a, ns, rfl, hS, q⟩ := h
    refine ⟨_, pss_cons (ps_set (i := 1) scShare.nd rfl (.inl rfl) (pe_op op_add pe_int (pe_call GD hr (by rfl) gD FD.kp bD .nil pass0 (pa_cons (pv 0) (pa_cons
        (pe_ix ix_list (pe_lst (pa_cons pe_int (pa_cons pe_int (pa_cons pe_int pa_nil)))) (pe_call GD hr (by rfl) gD FD.kp bD .nil pass0 (pa_cons (pv 0) (pa_cons pe_int pa_nil))) (fun _ _ => rfl)) pa_nil)))))
      (pss_one (ps_ret (pe_tup (pa_cons (pv 1) (pa_cons
        (pe_ix ix_list (pe_lst (pa_cons pe_int (pa_cons (pv 1) (pa_cons (pe_call GD hr (by rfl) gD FD.kp bD .nil pass0 (pa_cons (pv 0) (pa_cons (pe_op op_add (pv 1) pe_int) pa_nil)))
          (pa_cons (pe_call GD hr (by rfl) gD FD.kp bD .nil pass0 (pa_cons (pv 0) (pa_cons (pe_op op_add (pv 1) pe_int) pa_nil))) pa_nil)))))
          (pe_call GD hr (by rfl) gD FD.kp bD .nil pass0 (pa_cons (pv 0) (pa_cons pe_int pa_nil))) (fun _ _ => rfl)) pa_nil))))), ?_⟩
    -- [6, 16, 64][drawn(3)]
    refine ⟨_, rfl, (by show 3 ≤ sizeLine; decide), fun l1 n1 => ?_⟩
    have t1 := hS.ne n1
    have s1 : Same H (upd H l1 (.lst [.int 6, .int 16, .int 64])) := same_upd n1
    refine ⟨_, rfl, p, a, ns, 3, rfl, hS.same s1, by decide, by decide, fun H1 v1 B1 S1 v10 v11 => ?_⟩
    have e1 : H1 l1 = some (.lst [.int 6, .int 16, .int 64]) := B1 _ _ upd_same t1.symm
    obtain ⟨x, g1, x0, x1⟩ : ∃ x : Int, atI [V.int 6, V.int 16, V.int 64] v1 = some (.int x) ∧ 0 < x ∧ x ≤ 64 := by
      have hv : v1 = 0 ∨ v1 = 1 ∨ v1 = 2 := by omega
      rcases hv with rfl | rfl | rfl
      · exact ⟨6, rfl, by decide, by decide⟩
      · exact ⟨16, rfl, by decide, by decide⟩
      · exact ⟨64, rfl, by decide, by decide⟩
    refine ⟨l1, _, _, _, rfl, rfl, SqL.of e1, g1, p, a, ns, x, rfl, S1, x0, (by omega), fun H2 v2 B2 S2 v20 v21 => ⟨_, _, rfl, rfl, ?_⟩⟩
    have bb : But p H H2 := (But.of_same s1).trans (B1.trans B2)
    -- the pulses
    refine ⟨_, rfl, _, rfl, _, rfl, _, rfl, _, _, rfl, rfl, p, a, ns, 1 + v2 + 1, rfl, S2, by omega, by omega, fun H3 v3 B3 S3 v30 v31 => ?_⟩
    refine ⟨_, rfl, _, rfl, _, _, rfl, rfl, p, a, ns, 1 + v2 + 1, rfl, S3, by omega, by omega, fun H4 v4 B4 S4 v40 v41 => ?_⟩
    refine ⟨(by show 4 ≤ sizeLine; decide), fun l2 n2 => ?_⟩
    have t2 := S4.ne n2
    have s2 : Same H4 (upd H4 l2 (.lst [.int 0, .int (1 + v2), .int v3, .int v4])) := same_upd n2
    refine ⟨_, rfl, p, a, ns, 4, rfl, S4.same s2, by decide, by decide, fun H5 v5 B5 S5 v50 v51 => ?_⟩
    have e5 : H5 l2 = some (.lst [.int 0, .int (1 + v2), .int v3, .int v4]) := B5 _ _ upd_same t2.symm
    obtain ⟨y, g5, y0, y1⟩ : ∃ y : Int, atI [V.int 0, V.int (1 + v2), V.int v3, V.int v4] v5 = some (.int y) ∧ 0 ≤ y ∧ y ≤ 1 + v2 := by
      have hv : v5 = 0 ∨ v5 = 1 ∨ v5 = 2 ∨ v5 = 3 := by omega
      rcases hv with rfl | rfl | rfl | rfl
      · exact ⟨0, rfl, by decide, by omega⟩
      · exact ⟨1 + v2, rfl, by omega, by omega⟩
      · exact ⟨v3, rfl, by omega, by omega⟩
      · exact ⟨v4, rfl, by omega, by omega⟩
    refine ⟨l2, _, _, _, rfl, rfl, SqL.of e5, g5, (by show 2 ≤ sizeLine; decide), fun t nt => ?_⟩
    have s5 : Same H5 (upd H5 t (.tup [.int (1 + v2), .int y])) := same_upd nt
    have b5 : But p H H5 := bb.trans (B3.trans (B4.trans ((But.of_same s2).trans B5)))
    exact q _ t (1 + v2) y (b5.trans (But.of_same s5)) (S5.same s5) (b5.free (S5.ne nt).symm nt) upd_same ⟨by omega, by omega, y0, y1⟩
theorem ok_check {f : Addr} {fd : FuncData} (F : Fun K "check_share" "check_share" sCheck f fd) (mB : ∃ u, mg "MOST_BEATS" = some u ∧ RelV (.int 64) u) : FnOk P w K mg base CX0 1 f fd ["beats", "pulses"] spCheck := by
  obtain ⟨uB, mB, rB⟩ := mB
  refine F.ok scCheck (fun vs H Q E h => ?_) (fun cdv A outer s H vs Q E hr h => ?_)
  · obtain ⟨b, k, rfl, _⟩ := h
    rfl
  · obtain ⟨b, k, rfl, ⟨g1, g2, g3, g4⟩, q⟩ := h
    refine ⟨_, pss_cons (ps_if (pt_not (pt_chain op_le op_le pe_int (pv 0) (pe_glob rfl mB rB))) (pss_one ps_never) pss_nil)
      (pss_one (ps_if (pt_not (pt_chain op_le op_le pe_int (pv 1) (pv 0))) (pss_one ps_never) pss_nil)), ?_⟩
    refine ⟨_, rfl, _, _, rfl, rfl, _, rfl, ?_⟩
    rw [decide_eq_true g1]
    refine iteT ⟨_, _, rfl, rfl, _, rfl, ?_⟩
    rw [decide_eq_true g2]
    refine iteF ?_
    refine ⟨_, rfl, _, _, rfl, rfl, _, rfl, ?_⟩
    rw [decide_eq_true g3]
    refine iteT ⟨_, rfl, _, _, rfl, rfl, _, rfl, ?_⟩
    rw [decide_eq_true g4]
    exact iteF q
theorem ok_ahead {f : Addr} {fd : FuncData} (F : Fun K "pulses_ahead" "pulses_ahead" sAhead f fd) : FnOk P w K mg base CX0 1 f fd ["at", "beats", "pulses"] spAhead := by
  refine F.ok scAhead (fun vs H Q E h => ?_) (fun cdv A outer s H vs Q E hr h => ?_)
  · obtain ⟨n, b, k, rfl, _⟩ := h
    rfl
  · obtain ⟨n, b, k, rfl, ⟨g1, g2, g3, g4⟩, q⟩ := h
    refine ⟨_, pss_one (ps_ret (pe_op op_fdiv (pe_op op_mul (pv 0) (pv 2)) (pv 1))), ?_⟩
    exact ⟨_, rfl, _, rfl, _, _, rfl, rfl, .inr ⟨by omega, by omega⟩, _, rfl, _, _, rfl, rfl, ⟨by omega, by omega⟩, q⟩
theorem ok_even {f fC fA : Addr} {fd fdC fdA : FuncData} (F : Fun K "even" "even" sEven f fd) (FC : Fun K "check_share" "check_share" sCheck fC fdC) (bC : Binds K fdC ["beats", "pulses"] []) (gC : mg "check_share" = some (.ref fC)) (mB : ∃ u, mg "MOST_BEATS" = some u ∧ RelV (.int 64) u)
    (FA : Fun K "pulses_ahead" "pulses_ahead" sAhead fA fdA) (bA : Binds K fdA ["at", "beats", "pulses"] []) (gA : mg "pulses_ahead" = some (.ref fA)) (mr : mg "range" = none) : FnOk P w K mg base CX0 2 f fd ["beats", "pulses", "turn"] spMake := by
  have GC : FnOk P w K mg base CX0 1 fC fdC ["beats", "pulses"] spCheck := ok_check FC mB
  have GA : FnOk P w K mg base CX0 1 fA fdA ["at", "beats", "pulses"] spAhead := ok_ahead FA
  refine F.ok scEven (fun vs H Q E h => ?_) (fun cdv A outer s H vs Q E hr h => ?_)
  · obtain ⟨b, k, t, rfl, _⟩ := h
    rfl
  · obtain ⟨b, k, t, rfl, G, ht, q⟩ := h
    obtain ⟨g1, g2, g3, g4⟩ := id G
    refine ⟨_, pss_cons (ps_expr (pe_call GC hr (by rfl) gC FC.kp bC .nil pass0 (pa_cons (pv 0) (pa_cons (pv 1) pa_nil))))
      (pss_cons (ps_set (i := 3) scEven.nd rfl (.inl rfl) (pe_lst pa_nil))
      (pss_cons (ps_for PassesOwn.never rfl (pi_range1 rfl mr (pa_cons (pv 0) pa_nil)) (pg_name (i := 4) scEven.nd rfl (.inl rfl))
        (pss_cons (ps_set (i := 5) scEven.nd rfl (.inl rfl) (pe_call GA hr (by rfl) gA FA.kp bA .nil pass0 (pa_cons (pe_op op_add (pv 4) (pv 2)) (pa_cons (pv 0) (pa_cons (pv 1) pa_nil)))))
        (pss_cons (ps_set (i := 6) scEven.nd rfl (.inl rfl) (pe_call GA hr (by rfl) gA FA.kp bA .nil pass0 (pa_cons (pe_op op_add (pe_op op_add (pv 4) pe_int) (pv 2)) (pa_cons (pv 0) (pa_cons (pv 1) pa_nil)))))
        (pss_one (ps_expr (pe_bm PySem.F.plainAttrs_list PySem.F.slot_list_append PySem.F.type_list_append mt_append (pv 3) (pa_cons (pe_ifExp (pt_cmpR op_gt (pv 6) (pv 5) (nomark _)) pe_int pe_int) pa_nil)))))))
      (pss_one (ps_ret (pv 3))))), ?_⟩
    have h0 : (0 : Int) < b := by omega
    refine ⟨_, rfl, _, rfl, b, k, rfl, G, (by show 0 ≤ sizeLine; decide), fun r nr => ?_⟩
    have s0 : Same H (upd H r (.lst [])) := same_upd nr
    refine ⟨_, rfl, b, rfl, by omega, by omega, for_range (lo := 0) (n := b.toNat) (fun i σ H' => ∃ v4 v5 v6 : Option V, σ = [some (.int b), some (.int k), some (.int t), some (.ref r), v4, v5, v6] ∧ Same H H' ∧ H' r = some (.lst ((evenN b k t i).map V.int)))
      ⟨none, none, none, rfl, s0, upd_same⟩ ?_ ?_⟩
    · rintro i σ H' hi ⟨v4, v5, v6, rfl, s1, e1⟩
      refine ⟨_, rfl, _, rfl, _, _, rfl, rfl, _, rfl, _, rfl, _, b, k, rfl, G, ?_⟩
      refine ⟨_, rfl, _, _, rfl, rfl, _, rfl, _, _, rfl, rfl, _, rfl, _, rfl, _, b, k, rfl, G, ?_⟩
      have e3 : (0 + (i : Int) + t) = t + (i : Int) := by omega
      have e4 : (0 + (i : Int) + 1 + t) = t + (i : Int) + 1 := by omega
      rw [e3, e4]
      have eb : bitE b k (t + (i : Int)) = (t + (i : Int) + 1) * k / b - (t + (i : Int)) * k / b := rfl
      have done : ∀ z : Int, z = bitE b k (t + (i : Int)) → ∃ v4 v5 v6 : Option V, [some (V.int b), some (.int k), some (.int t), some (.ref r), some (.int (0 + (i : Int))), some (.int ((t + (i : Int)) * k / b)), some (.int ((t + (i : Int) + 1) * k / b))] = [some (.int b), some (.int k), some (.int t), some (.ref r), v4, v5, v6] ∧ Same H (upd H' r (.lst ((evenN b k t i).map V.int ++ [.int z]))) ∧ upd H' r (.lst ((evenN b k t i).map V.int ++ [.int z])) r = some (.lst ((evenN b k t (i + 1)).map V.int)) := fun z hz => by
        refine ⟨_, _, _, rfl, fun c o e => ?_, ?_⟩
        · rw [upd_ne (ne_of_none e nr)]
          exact s1 _ _ e
        · rw [upd_same, evenN_succ, List.map_append, hz]
          rfl
      have hlen : ((evenN b k t i).map V.int).length < sizeLine := by
        rw [List.length_map, evenN_len]
        exact small1000 (by omega)
      refine ⟨_, rfl, .inl ⟨rfl, _, SqL.of e1⟩, _, rfl, _, rfl, _, _, rfl, rfl, _, rfl, ite2 (fun e => ?_) (fun e => ?_)⟩
      · have e5 := of_decide_eq_true e
        refine ⟨r, _, _, rfl, rfl, e1, hlen, done 1 ?_⟩
        rcases bit_01 h0 g3 g4 (t + (i : Int)) with c | c <;> omega
      · have e5 : ¬ _ < _ := fun z => e (decide_eq_true z)
        refine ⟨r, _, _, rfl, rfl, e1, hlen, done 0 ?_⟩
        rcases bit_01 h0 g3 g4 (t + (i : Int)) with c | c <;> omega
    · rintro σ H' ⟨v4, v5, v6, rfl, s1, e1⟩
      exact ⟨_, rfl, q H' r s1 nr e1⟩
theorem ok_init {f C : Addr} {fd : FuncData} (F : Fun K "__init__" "Stream.__init__" sInit f fd) (T : TxtS K mg C) (mB : ∃ u, mg "MOST_WHOLE" = some u ∧ RelV (.int 1000000000000) u) : FnOk P w K mg base CX0 1 f fd ["self", "whole"] (spInit C) := by
  obtain ⟨uB, mMOST_WHOLE, rMOST_WHOLE⟩ := mB
  refine F.ok scInit (fun vs H Q E h => ?_) (fun cdv A outer s H vs Q E hr h => ?_)
  · obtain ⟨p, dx, wh, rfl, _⟩ := h
    rfl
  · obtain ⟨p, dx, wh, rfl, hp, h1, h2, q⟩ := h
    refine ⟨_, pss_cons (ps_if (pt_not (pt_chain op_le op_le pe_int (pv 1) (pe_glob rfl mMOST_WHOLE rMOST_WHOLE)))
        (pss_one ps_never) pss_nil)
      (pss_cons (ps_fld (pv 0) (pv 1) rfl)
      (pss_cons (ps_fld (pv 0) pe_int rfl)
      (pss_one (ps_fld (pv 0) pe_int rfl)))), ?_⟩
    refine ⟨_, rfl, _, _, rfl, rfl, _, rfl, ?_⟩
    rw [decide_eq_true h1]
    refine iteT ⟨_, _, rfl, rfl, _, rfl, ?_⟩
    rw [decide_eq_true h2]
    refine iteF ?_
    refine ⟨_, rfl, _, rfl, p, C, dx, _, rfl, hp, T.cl, T.nW, (by show 0 < 1000; decide), ?_⟩
    refine ⟨_, rfl, p, C, dx, _, rfl, upd_same, T.cl, T.nL, (by show 1 < 1000; decide), ?_⟩
    refine ⟨_, rfl, p, C, dx, _, rfl, upd_same, T.cl, T.nT, (by rw [sF_new1]; show 2 < 1000; decide), ?_⟩
    refine q _ ⟨dx, Eq.trans upd_same (congrArg (fun q => some (HO.ins C dx q)) (sF_new wh))⟩ fun b o e hb => ?_
    rw [upd_ne hb, upd_ne hb, upd_ne hb]
    exact e
theorem ok_next {f C : Addr} {fd : FuncData} (F : Fun K "next" "Stream.next" sNext f fd) (T : TxtS K mg C) : FnOk P w K mg base CX0 1 f fd ["self", "share"] (spNext C) := by
  refine F.ok scNext (fun vs H Q E h => ?_) (fun cdv A outer s H vs Q E hr h => ?_)
  · obtain ⟨p, wh, l, t, sh, rfl, _⟩ := h
    rfl
  · obtain ⟨p, wh, l, t, sh, rfl, ⟨dx, hp⟩, h1, h2, h3, h4, q⟩ := h
    refine ⟨_, pss_cons (ps_if (pt_not (pt_chain op_le op_le pe_int (pv 1) (pe_fld (pv 0) rfl)))
        (pss_one ps_never) pss_nil)
      (pss_cons (ps_fldaug (pv 0) (pv 1) in_add)
      (pss_cons (ps_if (pt_cmpR op_lt (pe_fld (pv 0) rfl) (pe_fld (pv 0) rfl) (nomark _))
        (pss_one (ps_ret pe_int)) pss_nil)
      (pss_cons (ps_fldaug (pv 0) (pe_fld (pv 0) rfl) in_sub)
      (pss_cons (ps_fldaug (pv 0) pe_int in_add)
      (pss_one (ps_ret pe_int)))))), ?_⟩
    refine ⟨_, rfl, _, _, rfl, rfl, _, rfl, ?_⟩
    rw [decide_eq_true h1]
    refine iteT ⟨_, rfl, p, C, dx, _, _, rfl, hp, T.cl, T.nW, sF_whole _ _ _, _, _, rfl, rfl, _, rfl, ?_⟩
    rw [decide_eq_true h2]
    refine iteF ?_
    refine ⟨_, rfl, p, C, dx, _, _, rfl, hp, T.cl, T.nL, sF_left _ _ _, _, rfl, _, _, rfl, rfl, dx, _, hp, (by show 3 < 1000; decide), ?_⟩
    rw [sF_put_left]
    refine ⟨_, rfl, p, C, dx, _, _, rfl, upd_same, T.cl, T.nL, sF_left _ _ _, _, rfl, p, C, dx, _, _, rfl, upd_same, T.cl, T.nW, sF_whole _ _ _, _, _, rfl, rfl, _, rfl, ite2 (fun e => ?_) (fun e => ?_)⟩
    · have c : l + sh < wh := of_decide_eq_true e
      have e1 : (l + sh) / wh = 0 := Int.ediv_eq_zero_of_lt (by omega) c
      have e2 : (l + sh) % wh = l + sh := Int.emod_eq_of_lt (by omega) c
      rw [e1, e2] at q
      refine q _ But.upd ⟨dx, ?_⟩
      rw [show t + 0 = t by omega]
      exact upd_same
    · have c : ¬ l + sh < wh := fun z => e (decide_eq_true z)
      have e0 : l + sh = (l + sh - wh) + wh * 1 := by omega
      have z0 : (l + sh - wh) / wh = 0 := Int.ediv_eq_zero_of_lt (by omega) (by omega)
      have z1 : (l + sh - wh) % wh = l + sh - wh := Int.emod_eq_of_lt (by omega) (by omega)
      have e1 : (l + sh) / wh = 1 := by
        rw [e0, Int.add_mul_ediv_left _ _ (by omega : wh ≠ 0), z0]
        rfl
      have e2 : (l + sh) % wh = l + sh - wh := by
        have z : (l + sh - wh + wh * 1) % wh = l + sh - wh := by
          rw [Int.add_mul_emod_self_left]
          exact z1
        rw [← e0] at z
        exact z
      rw [e1, e2] at q
      refine ⟨_, rfl, p, C, dx, _, _, rfl, upd_same, T.cl, T.nL, sF_left _ _ _, _, rfl, p, C, dx, _, _, rfl, upd_same, T.cl, T.nW, sF_whole _ _ _, _, _, rfl, rfl, dx, _, upd_same, (by show 3 < 1000; decide), ?_⟩
      rw [upd_upd, sF_put_left]
      refine ⟨_, rfl, p, C, dx, _, _, rfl, upd_same, T.cl, T.nT, sF_told _ _ _, _, _, rfl, rfl, dx, _, upd_same, (by show 3 < 1000; decide), ?_⟩
      rw [upd_upd, sF_put_told]
      exact q _ But.upd ⟨dx, upd_same⟩
theorem ok_pulsed {f C fI fN : Addr} {fd fdI fdN : FuncData} (F : Fun K "pulsed" "pulsed" sPulsed f fd) (T : TxtS K mg C) (mB : ∃ u, mg "MOST_WHOLE" = some u ∧ RelV (.int 1000000000000) u)
    (MI : Mk K C fI) (FI : Fun K "__init__" "Stream.__init__" sInit fI fdI) (bI : Binds K fdI ["self", "whole"] []) (FN : Fun K "next" "Stream.next" sNext fN fdN) (bN : Binds K fdN ["self", "share"] []) (mN : Meth K C "next" fN) : FnOk P w K mg base CX0 3 f fd ["whole", "shares"] (spPulsed K) := by
  have GI : FnOk P w K mg base CX0 1 fI fdI ["self", "whole"] (spInit C) := ok_init FI T mB
  have GN : FnOk P w K mg base CX0 1 fN fdN ["self", "share"] (spNext C) := ok_next FN T
  have gStream := T.gC
  refine F.ok scPulsed (fun vs H Q E h => ?_) (fun cdv A outer s H vs Q E hr h => ?_)
  · obtain ⟨wh, q, ss, rfl, _⟩ := h
    rfl
  · obtain ⟨wh, sl, ss, rfl, hw1, hw2, hs, hss, hlen, q⟩ := h
    have hr1 := hr.mono (show 1 ≤ 2 by decide)
    refine ⟨_, pss_cons (ps_set (i := 2) scPulsed.nd rfl (.inl rfl) (pe_make MI GI hr (by rfl) gStream bI .nil pass0 (pa_cons (pv 0) pa_nil)))
      (pss_cons (ps_set (i := 3) scPulsed.nd rfl (.inl rfl) (pe_lst pa_nil))
      (pss_cons (ps_for PassesOwn.never rfl (pi_list (pv 1)) (pg_name (i := 4) scPulsed.nd rfl (.inl rfl))
        (pss_one (ps_expr (pe_bm PySem.F.plainAttrs_list PySem.F.slot_list_append PySem.F.type_list_append mt_append (pv 3) (pa_cons (pe_meth (pv 2) T.cl mN GN hr1 bN .nil pass0 (pa_cons (pv 4) pa_nil)) pa_nil)))))
      (pss_one (ps_ret (pv 3))))), ?_⟩
    refine ⟨_, rfl, fun x dx nx ndx nex => ⟨x, dx, wh, rfl, upd_same, hw1, hw2, fun H1 S1 k1 => ⟨rfl, ?_⟩⟩⟩
    have s1 : Same H H1 := Same.made nx ndx k1
    refine ⟨(by show 0 ≤ sizeLine; decide), fun r nr => ?_⟩
    have s2 : Same H1 (upd H1 r (.lst [])) := same_upd nr
    obtain ⟨dx1, hx1⟩ := id S1
    have rx : r ≠ x := (ne_of_none hx1 nr).symm
    refine ⟨_, rfl, sl, rfl, ⟨_, SqL.of (s2 _ _ (s1 _ _ hs))⟩, for_list (K := K) (a := sl) (xs := ss.map V.int) (fun i σ H' => ∃ v4 : Option V, σ = [some (.int wh), some (.ref sl), some (.ref x), some (.ref r), v4] ∧ Same H H' ∧ SAt C H' x wh ((ss.take i).sum % wh) ((ss.take i).sum / wh) ∧ H' r = some (.lst (((pulN wh ss) i).map V.int)))
      ⟨none, rfl, s1.trans s2, ⟨dx1, by rw [show ((ss.take 0).sum : Int) = 0 from rfl, Int.zero_emod, Int.zero_ediv]; exact s2 _ _ hx1⟩, upd_same⟩ (fun i σ H' _ ⟨_, _, s3, _⟩ => SqL.of (s3 _ _ hs)) ?_ ?_⟩
    · rintro i y σ H3 hi ⟨v4, rfl, s3, S3, e3⟩
      obtain ⟨z, hz, rfl⟩ := int_at hi
      obtain ⟨dx3, hx3⟩ := id S3
      have hzz := hss z (List.mem_of_getElem? hz)
      have nl : (((pulN wh ss) i).map V.int).length < sizeLine := by
        have := (List.getElem?_eq_some_iff.mp hz).1
        rw [List.length_map, pulN_len]
        exact Nat.lt_of_lt_of_le this (Nat.le_trans hlen (by decide))
      refine ⟨_, rfl, .inl ⟨rfl, _, SqL.of e3⟩, _, rfl, x, dx3, _, rfl, hx3, sF_no _ _ _ (by decide +kernel) (by decide +kernel) (by decide +kernel), _, rfl, x, wh, _, _, z, rfl, S3, hzz.1, hzz.2, (mod_lt (by omega)).1, (mod_lt (by omega)).2, fun H4 B4 S4 => ?_⟩
      have e4 := B4 _ _ e3 rx
      refine ⟨r, _, _, rfl, rfl, e4, nl, ?_⟩
      obtain ⟨p1, p2, p3⟩ := pul_step (wh := wh) (by omega) hz
      obtain ⟨dx4, hx4⟩ := S4
      refine ⟨_, rfl, fun b o e => ?_, ⟨dx4, ?_⟩, ?_⟩
      · rw [upd_ne (show b ≠ r from fun z => by rw [z, s1.free nr] at e; cases e)]
        exact B4 _ _ (s3 _ _ e) (fun z => by rw [z, nx] at e; cases e)
      · rw [upd_ne rx.symm, hx4, p1, p2]
      · rw [upd_same, p3, List.map_append]
        rfl
    · rintro σ H3 ⟨v4, rfl, s3, S3, e3⟩
      have hl : (ss.map V.int).length = ss.length := List.length_map ..
      rw [hl] at e3
      exact ⟨_, rfl, q H3 r s3 (s1.free nr) e3⟩
theorem ok_law {f C fI fN fP fSt fD fSh fE fC fA : Addr} {fd fdI fdN fdP fdSt fdD fdSh fdE fdC fdA : FuncData} (F : Fun K "law" "law" sLaw f fd) (T : TxtS K mg C) (mW : ∃ u, mg "MOST_WHOLE" = some u ∧ RelV (.int 1000000000000) u)
    (MI : Mk K C fI) (FI : Fun K "__init__" "Stream.__init__" sInit fI fdI) (bI : Binds K fdI ["self", "whole"] []) (FN : Fun K "next" "Stream.next" sNext fN fdN) (bN : Binds K fdN ["self", "share"] []) (mN : Meth K C "next" fN)
    (FP : Fun K "pulsed" "pulsed" sPulsed fP fdP) (bP : Binds K fdP ["whole", "shares"] []) (gP : mg "pulsed" = some (.ref fP))
    (FSt : Fun K "_law_start" "_law_start" sStart fSt fdSt) (bSt : Binds K fdSt ["_law_script"] []) (gSt : mg "_law_start" = some (.ref fSt))
    (FD : Fun K "_law_drawn" "_law_drawn" sDrawn fD fdD) (bD : Binds K fdD ["_law_state", "_law_many"] []) (gD : mg "_law_drawn" = some (.ref fD))
    (FSh : Fun K "_law_share" "_law_share" sShare fSh fdSh) (bSh : Binds K fdSh ["_law_state"] []) (gSh : mg "_law_share" = some (.ref fSh))
    (FE : Fun K "even" "even" sEven fE fdE) (bE : Binds K fdE ["beats", "pulses", "turn"] []) (gE : mg "even" = some (.ref fE))
    (FC : Fun K "check_share" "check_share" sCheck fC fdC) (bC : Binds K fdC ["beats", "pulses"] []) (gC : mg "check_share" = some (.ref fC)) (mB : ∃ u, mg "MOST_BEATS" = some u ∧ RelV (.int 64) u)
    (FA : Fun K "pulses_ahead" "pulses_ahead" sAhead fA fdA) (bA : Binds K fdA ["at", "beats", "pulses"] []) (gA : mg "pulses_ahead" = some (.ref fA))
    (m_len : mg "len" = none) (m_range : mg "range" = none) (m_sum : mg "sum" = none) :
    FnOk P w K mg base CX0 4 f fd ["_law_script"] (spLaw K) := by
  have GSt : FnOk P w K mg base CX0 1 fSt fdSt ["_law_script"] (spStart K) := ok_start FSt
  have GD : FnOk P w K mg base CX0 1 fD fdD ["_law_state", "_law_many"] (spDrawn K) := ok_drawn FD m_len
  have GSh : FnOk P w K mg base CX0 2 fSh fdSh ["_law_state"] (spShare K) := ok_share FSh FD bD gD m_len
  have GE : FnOk P w K mg base CX0 2 fE fdE ["beats", "pulses", "turn"] spMake := ok_even FE FC bC gC mB FA bA gA m_range
  have GP : FnOk P w K mg base CX0 3 fP fdP ["whole", "shares"] (spPulsed K) := ok_pulsed FP T mW MI FI bI FN bN mN
  refine F.ok scLaw (fun vs H Q E h => ?_) (fun cdv A outer s H vs Q E hr h => ?_)
  · obtain ⟨a, ns, rfl, _⟩ := h
    rfl
  · obtain ⟨a, ns, rfl, hS, q⟩ := h
    have hr1 := hr.mono (show 1 ≤ 3 by decide)
    have hr2 := hr.mono (show 2 ≤ 3 by decide)
    refine ⟨_, pss_cons (ps_set (i := 1) scLaw.nd rfl (.inl rfl) (pe_call GSt hr1 (by rfl) gSt FSt.kp bSt .nil pass0 (pa_cons (pv 0) pa_nil)))
      (pss_cons (ps_for PassesOwn.never rfl (pi_range1 rfl m_range (pa_cons pe_int pa_nil)) (pg_name (i := 2) scLaw.nd rfl (.inl rfl))
        (pss_cons (ps_set (i := 3) scLaw.nd rfl (.inl rfl) (pe_op op_add pe_int (pe_call GD hr1 (by rfl) gD FD.kp bD .nil pass0 (pa_cons (pv 1) (pa_cons (pe_ix ix_list (pe_lst (pa_cons pe_int (pa_cons pe_int (pa_cons (pe_op op_pow pe_int pe_int) pa_nil)))) (pe_call GD hr1 (by rfl) gD FD.kp bD .nil pass0 (pa_cons (pv 1) (pa_cons pe_int pa_nil))) (fun _ _ => rfl)) pa_nil)))))
        (pss_cons (ps_set (i := 4) scLaw.nd rfl (.inl rfl) (pe_op op_add pe_int (pe_call GD hr1 (by rfl) gD FD.kp bD .nil pass0 (pa_cons (pv 1) (pa_cons pe_int pa_nil)))))
        (pss_cons (ps_set (i := 5) scLaw.nd rfl (.inl rfl) (pe_call GD hr1 (by rfl) gD FD.kp bD .nil pass0 (pa_cons (pv 1) (pa_cons (pe_op op_add (pv 3) pe_int) pa_nil))))
        (pss_cons (ps_set (i := 6) scLaw.nd rfl (.inl rfl) (pe_lst pa_nil))
        (pss_cons (ps_for PassesOwn.never rfl (pi_range1 rfl m_range (pa_cons (pe_call GD hr1 (by rfl) gD FD.kp bD .nil pass0 (pa_cons (pv 1) (pa_cons (pe_ix ix_list (pe_lst (pa_cons pe_int (pa_cons pe_int (pa_cons pe_int (pa_cons pe_int pa_nil))))) (pe_call GD hr1 (by rfl) gD FD.kp bD .nil pass0 (pa_cons (pv 1) (pa_cons pe_int pa_nil))) (fun _ _ => rfl)) pa_nil))) pa_nil)) (pg_name (i := 7) scLaw.nd rfl (.inl rfl))
          (pss_cons (ps_if (pt_cmpR op_eq (pe_call GD hr1 (by rfl) gD FD.kp bD .nil pass0 (pa_cons (pv 1) (pa_cons (pv 4) pa_nil))) pe_int (nomark _))
            (pss_one (ps_set (i := 5) scLaw.nd rfl (.inl rfl) (pe_call GD hr1 (by rfl) gD FD.kp bD .nil pass0 (pa_cons (pv 1) (pa_cons (pe_op op_add (pv 3) pe_int) pa_nil))))) pss_nil)
          (pss_one (ps_expr (pe_bm PySem.F.plainAttrs_list PySem.F.slot_list_append PySem.F.type_list_append mt_append (pv 6) (pa_cons (pv 5) pa_nil))))))
        (pss_cons (ps_set (i := 8) scLaw.nd rfl (.inl rfl) (pe_call GP hr (by rfl) gP FP.kp bP .nil pass0 (pa_cons (pv 3) (pa_cons (pv 6) pa_nil))))
        (pss_cons (ps_for PassesOwn.never rfl (pi_range1 rfl m_range (pa_cons pe_int pa_nil)) (pg_name (i := 9) scLaw.nd rfl (.inl rfl))
          (pss_cons (ps_set (i := 10) scLaw.nd rfl (.inl rfl) (pe_call GD hr1 (by rfl) gD FD.kp bD .nil pass0 (pa_cons (pv 1) (pa_cons (pe_op op_add (pe_callB call_len_seq (by rfl) m_len (by decide +kernel) (pa_cons (pv 6) pa_nil)) pe_int) pa_nil))))
          (pss_cons (ps_set (i := 11) scLaw.nd rfl (.inl rfl) (pe_op op_add (pv 10) (pe_call GD hr1 (by rfl) gD FD.kp bD .nil pass0 (pa_cons (pv 1) (pa_cons (pe_op op_add (pe_op op_sub (pe_callB call_len_seq (by rfl) m_len (by decide +kernel) (pa_cons (pv 6) pa_nil)) (pv 10)) pe_int) pa_nil)))))
          (pss_cons (ps_set (i := 12) scLaw.nd rfl (.inl rfl) (pe_op op_sub (pe_op op_mul (pv 3) (pe_callB (cr_sum rfl) (by rfl) m_sum (by decide +kernel) (pa_cons (pe_slice sl_list (pv 8) (po_some (pv 10)) (po_some (pv 11))) pa_nil))) (pe_callB (cr_sum rfl) (by rfl) m_sum (by decide +kernel) (pa_cons (pe_slice sl_list (pv 6) (po_some (pv 10)) (po_some (pv 11))) pa_nil))))
          (pss_one (ps_if (pt_not (pt_chain op_lt op_lt (pe_op op_sub pe_int (pv 3)) (pv 12) (pv 3)))
            (pss_one (ps_ret pe_bl)) pss_nil))))))
        (pss_cons (ps_asg (pe_call GSh hr2 (by rfl) gSh FSh.kp bSh .nil pass0 (pa_cons (pv 1) pa_nil)) (pg_tup rfl (pgs_cons (pg_name (i := 13) scLaw.nd rfl (.inl rfl)) (pgs_cons (pg_name (i := 14) scLaw.nd rfl (.inl rfl)) pgs_nil))))
        (pss_one (ps_if (pt_cmpR (op_neD hr.units) (pe_call GP hr (by rfl) gP FP.kp bP .nil pass0 (pa_cons (pv 13) (pa_cons (pe_op op_rep (pe_lst (pa_cons (pv 14) pa_nil)) (pe_op op_mul pe_int (pv 13))) pa_nil))) (pe_op op_rep (pe_call GE hr2 (by rfl) gE FE.kp bE .nil pass0 (pa_cons (pv 13) (pa_cons (pv 14) (pa_cons pe_int pa_nil)))) pe_int) (nomark _))
          (pss_one (ps_ret pe_bl)) pss_nil)))))))))))
      (pss_one (ps_ret pe_bl))), ?_⟩
    refine ⟨_, rfl, a, ns, rfl, hS, fun H1 p s1 np S1 => ?_⟩
    refine ⟨4, rfl, by decide, by decide, for_range (lo := 0) (n := 4) (fun i σ H' => ∃ v2 v3 v4 v5 v6 v7 v8 v9 v10 v11 v12 v13 v14 : Option V, σ = [some (.ref a), some (.ref p), v2, v3, v4, v5, v6, v7, v8, v9, v10, v11, v12, v13, v14] ∧ StAt K p a ns H')
      ⟨none, none, none, none, none, none, none, none, none, none, none, none, none, rfl, S1⟩ ?_ ?_⟩
    · rintro i σ H2 hi ⟨v2, v3, v4, v5, v6, v7, v8, v9, v10, v11, v12, v13, v14, rfl, S2⟩
      clear hi
      -- the whole
      refine ⟨_, rfl, _, _, rfl, rfl, ⟨by decide, by decide, by decide⟩, (by show 3 ≤ sizeLine; decide), fun l nl => ?_⟩
      have t1 := S2.ne nl
      have s2 : Same H2 (upd H2 l (.lst [.int 10, .int 1000, .int (10 ^ (12 : Int).toNat)])) := same_upd nl
      refine ⟨_, rfl, p, a, ns, 3, rfl, S2.same s2, by decide, by decide, fun H3 w3 B3 S3 w30 w31 => ?_⟩
      have e3 : H3 l = some (.lst [.int 10, .int 1000, .int (10 ^ (12 : Int).toNat)]) := B3 _ _ upd_same t1.symm
      obtain ⟨x, g3, x0, x1⟩ : ∃ x : Int, atI [V.int 10, V.int 1000, V.int (10 ^ (12 : Int).toNat)] w3 = some (.int x) ∧ 0 < x ∧ x ≤ 1000000000000 := by
        have hv : w3 = 0 ∨ w3 = 1 ∨ w3 = 2 := by omega
        rcases hv with rfl | rfl | rfl
        · exact ⟨10, rfl, by decide, by decide⟩
        · exact ⟨1000, rfl, by decide, by decide⟩
        · exact ⟨_, rfl, by decide, by decide⟩
      refine ⟨l, _, _, _, rfl, rfl, SqL.of e3, g3, p, a, ns, x, rfl, S3, x0, (by omega), fun H4 w4 B4 S4 w40 w41 => ⟨_, _, rfl, rfl, ?_⟩⟩
      have wh1 : 1 ≤ 1 + w4 := by omega
      have wh2 : 1 + w4 ≤ 1000000000000 := by omega
      show gName 3 (V.int (1 + w4)) _ _ _
      generalize 1 + w4 = wh at wh1 wh2 ⊢
      clear w40 w41 x0 x1 g3 e3 t1 s2 B3 S3 B4 S2
      -- how often, the first share
      refine ⟨_, rfl, p, a, ns, 6, rfl, S4, by decide, by decide, fun H5 w5 B5 S5 w50 w51 => ⟨_, _, rfl, rfl, ?_⟩⟩
      refine ⟨_, rfl, _, rfl, _, _, rfl, rfl, p, a, ns, wh + 1, rfl, S5, by omega, by omega, fun H6 w6 B6 S6 w60 w61 => ?_⟩
      refine ⟨(by show 0 ≤ sizeLine; decide), fun sl nsl => ?_⟩
      have S7 := S6.same (same_upd (o := .lst []) nsl)
      have slp : sl ≠ p := S6.nlst nsl
      have e7 : (upd H6 sl (.lst [])) sl = some (.lst []) := upd_same
      generalize upd H6 sl (.lst []) = H7 at S7 e7
      -- how many shares
      refine ⟨_, rfl, (by show 4 ≤ sizeLine; decide), fun l nl => ?_⟩
      have t1 := S7.ne nl
      have lsl : sl ≠ l := ne_of_none e7 nl
      have s8 : Same H7 (upd H7 l (.lst [.int 101, .int 101, .int 101, .int 501])) := same_upd nl
      refine ⟨_, rfl, p, a, ns, 4, rfl, S7.same s8, by decide, by decide, fun H8 w8 B8 S8 w80 w81 => ?_⟩
      have e8 : H8 l = some (.lst [.int 101, .int 101, .int 101, .int 501]) := B8 _ _ upd_same t1.symm
      have e8s : H8 sl = some (.lst []) := B8 _ _ (s8 _ _ e7) slp
      obtain ⟨x, g8, x0, x1⟩ : ∃ x : Int, atI [V.int 101, V.int 101, V.int 101, V.int 501] w8 = some (.int x) ∧ 0 < x ∧ x ≤ 501 := by
        have hv : w8 = 0 ∨ w8 = 1 ∨ w8 = 2 ∨ w8 = 3 := by omega
        rcases hv with rfl | rfl | rfl | rfl
        · exact ⟨101, rfl, by decide, by decide⟩
        · exact ⟨101, rfl, by decide, by decide⟩
        · exact ⟨101, rfl, by decide, by decide⟩
        · exact ⟨501, rfl, by decide, by decide⟩
      refine ⟨l, _, _, _, rfl, rfl, SqL.of e8, g8, p, a, ns, x, rfl, S8, x0, (by omega), fun H9 w9 B9 S9 w90 w91 => ?_⟩
      have e9 := B9 _ _ e8s slp
      refine ⟨w9, rfl, by omega, by omega, for_range (lo := 0) (n := w9.toNat) (fun i σ H' => ∃ (v2 v7 v8 v9 v10 v11 v12 v13 v14 : Option V) (c : Int) (ss : List Int), σ = [some (.ref a), some (.ref p), v2, some (.int wh), some (.int (1 + w5)), some (.int c), some (.ref sl), v7, v8, v9, v10, v11, v12, v13, v14] ∧ StAt K p a ns H' ∧ 0 ≤ c ∧ c ≤ wh ∧ ss.length = i ∧ (∀ z ∈ ss, 0 ≤ z ∧ z ≤ wh) ∧ H' sl = some (.lst (ss.map V.int)))
        ⟨_, _, _, _, _, _, _, _, _, w6, [], rfl, S9, w60, by omega, rfl, (fun z hz => nomatch hz), e9⟩ ?_ ?_⟩
      · rintro j σ H10 hj ⟨v2, v7, v8, v9, v10, v11, v12, v13, v14, c, ss, rfl, S10, c0, c1, hl, hss, e10⟩
        have app : ∀ (H' : Hp) (c : Int), StAt K p a ns H' → 0 ≤ c → c ≤ wh → H' sl = some (.lst (ss.map V.int)) →
            ∃ (v2 v7 v8 v9 v10 v11 v12 v13 v14 : Option V) (c' : Int) (ss' : List Int), [some (V.ref a), some (.ref p), v2, some (.int wh), some (.int (1 + w5)), some (.int c), some (.ref sl), v7, v8, v9, v10, v11, v12, v13, v14] = [some (.ref a), some (.ref p), v2, some (.int wh), some (.int (1 + w5)), some (.int c'), some (.ref sl), v7, v8, v9, v10, v11, v12, v13, v14] ∧ StAt K p a ns (upd H' sl (.lst (ss.map V.int ++ [.int c]))) ∧ 0 ≤ c' ∧ c' ≤ wh ∧ ss'.length = j + 1 ∧ (∀ z ∈ ss', 0 ≤ z ∧ z ≤ wh) ∧ (upd H' sl (.lst (ss.map V.int ++ [.int c]))) sl = some (.lst (ss'.map V.int)) := by
          intro H' c S' c0 c1 e'
          refine ⟨v2, v7, v8, v9, v10, v11, v12, v13, v14, c, ss ++ [c], rfl, S'.but But.upd slp e', c0, c1, by rw [List.length_append, hl]; rfl, fun z hz => ?_, ?_⟩
          · rcases List.mem_append.mp hz with h | h
            · exact hss z h
            · rw [List.mem_singleton.mp h]
              exact ⟨c0, c1⟩
          · rw [upd_same, List.map_append]
            rfl
        have hlen : (ss.map V.int).length < sizeLine := by
          rw [List.length_map, hl]
          exact small1000 (by omega)
        refine ⟨_, rfl, _, rfl, p, a, ns, 1 + w5, rfl, S10, by omega, by omega, fun H11 w11 B11 S11 w110 w111 => ⟨rfl, _, rfl, ite2 (fun e => ?_) (fun e => ?_)⟩⟩
        · refine ⟨_, rfl, _, rfl, _, _, rfl, rfl, p, a, ns, wh + 1, rfl, S11, by omega, by omega, fun H12 w12 B12 S12 w120 w121 => ?_⟩
          have e12 := B12 _ _ (B11 _ _ e10 slp) slp
          refine ⟨_, rfl, .inl ⟨rfl, _, SqL.of e12⟩, _, rfl, sl, _, _, rfl, rfl, e12, hlen, ?_⟩
          obtain ⟨_, _, _, _, _, _, _, _, _, c', ss', _, r2⟩ := app H12 w12 S12 w120 (by omega) e12
          exact ⟨_, _, _, _, _, _, _, _, _, w12, ss', rfl, r2.1, w120, by omega, r2.2.2.2⟩
        · have e11 := B11 _ _ e10 slp
          refine ⟨_, rfl, .inl ⟨rfl, _, SqL.of e11⟩, _, rfl, sl, _, _, rfl, rfl, e11, hlen, ?_⟩
          obtain ⟨_, _, _, _, _, _, _, _, _, c', ss', _, r2⟩ := app H11 c S11 c0 c1 e11
          exact ⟨_, _, _, _, _, _, _, _, _, c, ss', rfl, r2.1, c0, c1, r2.2.2.2⟩
      · rintro σ H10 ⟨v2, v7, v8, v9, v10, v11, v12, v13, v14, c, ss, rfl, S10, c0, c1, hl, hss, e10⟩
        have hlen : ss.length ≤ 600 := by omega
        clear B9 e9 g8 x0 x1 B8 e8 e8s s8 t1 lsl e7 S7 S8 S9 S6 B6 B5 S5 c0 c1
        -- told
        refine ⟨_, rfl, _, rfl, wh, sl, ss, rfl, wh1, wh2, e10, hss, by omega, fun H11 r s11 nr er => ?_⟩
        have S11 := S10.same s11
        have e11 := s11 _ _ e10
        have rp : r ≠ p := S10.nlst nr
        refine ⟨6, rfl, by decide, by decide, for_range (lo := 0) (n := 6) (fun i σ H' => ∃ v2 v4 v5 v7 v9 v10 v11 v12 v13 v14 : Option V, σ = [some (.ref a), some (.ref p), v2, some (.int wh), v4, v5, some (.ref sl), v7, some (.ref r), v9, v10, v11, v12, v13, v14] ∧ StAt K p a ns H' ∧ H' sl = some (.lst (ss.map V.int)) ∧ H' r = some (.lst ((pulN wh ss ss.length).map V.int)))
          ⟨_, _, _, _, _, _, _, _, _, _, rfl, S11, e11, er⟩ ?_ ?_⟩
        · rintro j σ H12 hj ⟨v2, v4, v5, v7, v9, v10, v11, v12, v13, v14, rfl, S12, e12, er12⟩
          have hsl : ((ss.map V.int).length : Int) = (ss.length : Int) := by rw [List.length_map]
          refine ⟨_, rfl, _, rfl, sl, _, rfl, .inl (SqL.of e12), _, _, rfl, rfl, p, a, ns, _, rfl, S12, (by omega), (by omega), fun H13 w13 B13 S13 w130 w131 => ?_⟩
          have e13 := B13 _ _ e12 slp
          have er13 := B13 _ _ er12 rp
          refine ⟨_, rfl, _, rfl, _, rfl, sl, _, rfl, .inl (SqL.of e13), _, rfl, _, _, rfl, rfl, _, _, rfl, rfl, p, a, ns, _, rfl, S13, (by omega), (by omega), fun H14 w14 B14 S14 w140 w141 => ⟨_, _, rfl, rfl, ?_⟩⟩
          have e14 := B14 _ _ e13 slp
          have er14 := B14 _ _ er13 rp
          obtain ⟨ib, rfl⟩ : ∃ n : Nat, w13 = (n : Int) := ⟨w13.toNat, by omega⟩
          obtain ⟨ie, hie⟩ : ∃ n : Nat, (ib : Int) + w14 = (n : Int) := ⟨((ib : Int) + w14).toNat, by omega⟩
          show gName 11 (V.int ((ib : Int) + w14)) _ _ _
          rw [hie]
          have h1 : ib ≤ ie := by omega
          have h2 : ie ≤ ss.length := by omega
          -- apart
          have c1 : ∀ q1, SqL K (upd H14 q1 (.lst (cutV ((pulN wh ss ss.length).map V.int) (some (ib : Int)) (some (ie : Int))))) q1 ((((pulN wh ss ss.length).drop ib).take (ie - ib)).map V.int) := fun q1 => by
            rw [← cut_ints h1 (by rw [pulN_len]; exact h2)]
            exact SqL.of upd_same
          refine ⟨_, rfl, _, rfl, _, rfl, (ib : Int), rfl, _, rfl, (ie : Int), rfl, r, _, rfl, SqL.of er14, fun q1 nq1 => ⟨q1, _, rfl, c1 q1, _, _, rfl, rfl, .inl ⟨by omega, by omega⟩, ?_⟩⟩
          have S15 := S14.same (same_upd (o := .lst (cutV ((pulN wh ss ss.length).map V.int) (some (ib : Int)) (some (ie : Int)))) nq1)
          have e15 := same_upd (o := .lst (cutV ((pulN wh ss ss.length).map V.int) (some (ib : Int)) (some (ie : Int)))) nq1 _ _ e14
          have er15 := same_upd (o := .lst (cutV ((pulN wh ss ss.length).map V.int) (some (ib : Int)) (some (ie : Int)))) nq1 _ _ er14
          generalize upd H14 q1 (.lst (cutV ((pulN wh ss ss.length).map V.int) (some (ib : Int)) (some (ie : Int)))) = H15 at S15 e15 er15
          have c2 : ∀ q2, SqL K (upd H15 q2 (.lst (cutV (ss.map V.int) (some (ib : Int)) (some (ie : Int))))) q2 (((ss.drop ib).take (ie - ib)).map V.int) := fun q2 => by
            rw [← cut_ints h1 h2]
            exact SqL.of upd_same
          refine ⟨_, rfl, _, rfl, (ib : Int), rfl, _, rfl, (ie : Int), rfl, sl, _, rfl, SqL.of e15, fun q2 nq2 => ⟨q2, _, rfl, c2 q2, _, _, rfl, rfl, ?_⟩⟩
          have S16 := S15.same (same_upd (o := .lst (cutV (ss.map V.int) (some (ib : Int)) (some (ie : Int)))) nq2)
          have e16 := same_upd (o := .lst (cutV (ss.map V.int) (some (ib : Int)) (some (ie : Int)))) nq2 _ _ e15
          have er16 := same_upd (o := .lst (cutV (ss.map V.int) (some (ib : Int)) (some (ie : Int)))) nq2 _ _ er15
          obtain ⟨a1, a2⟩ := apart (wh := wh) (by omega) ss h1 h2
          refine ⟨_, rfl, _, _, rfl, rfl, _, rfl, _, _, rfl, rfl, _, rfl, iteTd a1 ⟨_, rfl, _, _, rfl, rfl, _, rfl, iteNS a2 ?_⟩⟩
          exact ⟨_, _, _, _, _, _, _, _, _, _, rfl, S16, e16, er16⟩
        · rintro σ H12 ⟨v2, v4, v5, v7, v9, v10, v11, v12, v13, v14, rfl, S12, e12, er12⟩
          refine ⟨_, rfl, p, a, ns, rfl, S12, fun H13 t b k B13 S13 nt et G => ?_⟩
          refine ⟨t, [.int b, .int k], rfl, SqT.of et, rfl, .int b, [.int k], rfl, .int k, [], rfl, rfl, ?_⟩
          obtain ⟨g1, g2, g3, g4⟩ := id G
          refine ⟨_, rfl, _, rfl, (by show 1 ≤ sizeLine; decide), fun l nl => ⟨_, rfl, _, _, rfl, rfl, .inl ⟨by decide, by decide⟩, l, 3 * b, _, rfl, rfl, upd_same, by omega, by omega, ?_, fun l2 nl2 => ?_⟩⟩
          · show 1 * (3 * b).toNat ≤ sizeLine
            exact Nat.le_trans (show 1 * (3 * b).toNat ≤ 1000 by omega) (by decide)
          have el : (upd (upd H13 l (.lst [.int k])) l2 (.lst (List.replicate (3 * b).toNat [V.int k]).flatten)) l2 = some (.lst ((List.replicate (3 * b.toNat) k).map V.int)) := by
            rw [upd_same, show (3 * b).toNat = 3 * b.toNat by omega, List.map_replicate]
            congr 2
            induction (3 * b.toNat) with
            | zero => rfl
            | succ n ih =>
              rw [List.replicate_succ, List.flatten_cons, ih]
              rfl
          have sl2 : Same H13 (upd (upd H13 l (.lst [.int k])) l2 (.lst (List.replicate (3 * b).toNat [V.int k]).flatten)) := (same_upd nl).trans (same_upd nl2)
          generalize upd (upd H13 l (.lst [.int k])) l2 (.lst (List.replicate (3 * b).toNat [V.int k]).flatten) = H14 at el sl2
          refine ⟨b, l2, _, rfl, g1, by omega, el, fun z hz => ?_, (by rw [List.length_replicate]; omega), fun H15 r15 s15 nr15 er15 => ?_⟩
          · rw [(List.mem_replicate.mp hz).2]
            exact ⟨g3, g4⟩
          rw [List.length_replicate, rep_even (by omega)] at er15
          refine ⟨_, rfl, _, rfl, b, k, 0, rfl, G, by decide, fun H16 r16 s16 nr16 er16 => ?_⟩
          refine ⟨r16, 3, _, rfl, rfl, er16, by decide, by decide, ?_, fun l3 nl3 => ?_⟩
          · rw [List.length_map, evenL_len]
            exact Nat.le_trans (show b.toNat * 3 ≤ 1000 by omega) (by decide)
          have e3 : (List.replicate (3 : Int).toNat ((evenL b k 0).map V.int)).flatten = (evenL b k 0 ++ (evenL b k 0 ++ evenL b k 0)).map V.int := by
            rw [List.map_append, List.map_append]
            exact rep3 _
          rw [e3]
          refine ⟨_, _, dp_ints (SqL.of (same_upd nl3 _ _ (s16 _ _ er15))), dp_ints (SqL.of upd_same), shaped_ints _, shaped_ints _, _, rfl, ?_⟩
          rw [eqv_ints]
          refine iteNS rfl ?_
          exact ⟨_, _, _, _, _, _, _, _, _, _, _, _, _, rfl, (((S13.same sl2).same s15).same s16).same (same_upd nl3)⟩
    · rintro σ H2 ⟨v2, v3, v4, v5, v6, v7, v8, v9, v10, v11, v12, v13, v14, rfl, S2⟩
      exact q _
end
theorem all_mk {l : PySem.W.OpenLaw} {w : World} {K : PySem.W.Frag} {h : Heap} {mg : Str → Option Value} {fa f1 f2 f3 f4 f5 f6 f7 f9 : Addr} (X : K.In h) (G : h.Ns mainGlobals mg) (hfa : mg "law" = some (.ref fa))
    {od1 an1 od2 an2 od3 an3 od4 an4 od5 an5 od6 an6 od7 an7 od9 an9 : Option Addr} {sl1 sl2 sl3 sl4 sl5 sl6 sl7 sl9 : Array (Option Value)} {oc1 kV1 dc1 pm1 cd1 ct1 oc2 kV2 dc2 pm2 cd2 ct2 oc3 kV3 dc3 pm3 cd3 ct3 oc4 kV4 dc4 pm4 cd4 ct4 oc5 kV5 dc5 pm5 cd5 ct5 oc6 kV6 dc6 pm6 cd6 ct6 oc7 kV7 dc7 pm7 cd7 ct7 oc9 kV9 dc9 pm9 cd9 ct9 : Value}
    {tkMOST_BEATS tkMOST_WHOLE : Tok}
    {C g1 g2 : Addr} {odg1 ang1 odg2 ang2 : Option Addr} {slg1 slg2 : Array (Option Value)} {ocg1 kVg1 dcg1 pmg1 cdg1 ctg1 ocg2 kVg2 dcg2 pmg2 cdg2 ctg2 : Value}
    (a1 : PySem.W.nsIn K mainGlobals "pulsed" = some (some (.ref f1))) (l1 : K.lookup f1 = some ⟨oc1, od1, .func (PySem.W.fnOf "pulsed" "pulsed" (defArgs sPulsed) (defBody sPulsed) (defScope sPulsed) .none kV1 dc1 pm1 an1 cd1 ct1), sl1⟩) (c1 : PySem.W.codeIn K cd1 "pulsed" = true) (k1 : PySem.W.keepIn K (.ref f1) = true)
    (a2 : PySem.W.nsIn K mainGlobals "check_share" = some (some (.ref f2))) (l2 : K.lookup f2 = some ⟨oc2, od2, .func (PySem.W.fnOf "check_share" "check_share" (defArgs sCheck) (defBody sCheck) (defScope sCheck) .none kV2 dc2 pm2 an2 cd2 ct2), sl2⟩) (c2 : PySem.W.codeIn K cd2 "check_share" = true) (k2 : PySem.W.keepIn K (.ref f2) = true)
    (a3 : PySem.W.nsIn K mainGlobals "pulses_ahead" = some (some (.ref f3))) (l3 : K.lookup f3 = some ⟨oc3, od3, .func (PySem.W.fnOf "pulses_ahead" "pulses_ahead" (defArgs sAhead) (defBody sAhead) (defScope sAhead) .none kV3 dc3 pm3 an3 cd3 ct3), sl3⟩) (c3 : PySem.W.codeIn K cd3 "pulses_ahead" = true) (k3 : PySem.W.keepIn K (.ref f3) = true)
    (a4 : PySem.W.nsIn K mainGlobals "even" = some (some (.ref f4))) (l4 : K.lookup f4 = some ⟨oc4, od4, .func (PySem.W.fnOf "even" "even" (defArgs sEven) (defBody sEven) (defScope sEven) .none kV4 dc4 pm4 an4 cd4 ct4), sl4⟩) (c4 : PySem.W.codeIn K cd4 "even" = true) (k4 : PySem.W.keepIn K (.ref f4) = true)
    (a5 : PySem.W.nsIn K mainGlobals "_law_start" = some (some (.ref f5))) (l5 : K.lookup f5 = some ⟨oc5, od5, .func (PySem.W.fnOf "_law_start" "_law_start" (defArgs sStart) (defBody sStart) (defScope sStart) .none kV5 dc5 pm5 an5 cd5 ct5), sl5⟩) (c5 : PySem.W.codeIn K cd5 "_law_start" = true) (k5 : PySem.W.keepIn K (.ref f5) = true)
    (a6 : PySem.W.nsIn K mainGlobals "_law_drawn" = some (some (.ref f6))) (l6 : K.lookup f6 = some ⟨oc6, od6, .func (PySem.W.fnOf "_law_drawn" "_law_drawn" (defArgs sDrawn) (defBody sDrawn) (defScope sDrawn) .none kV6 dc6 pm6 an6 cd6 ct6), sl6⟩) (c6 : PySem.W.codeIn K cd6 "_law_drawn" = true) (k6 : PySem.W.keepIn K (.ref f6) = true)
    (a7 : PySem.W.nsIn K mainGlobals "_law_share" = some (some (.ref f7))) (l7 : K.lookup f7 = some ⟨oc7, od7, .func (PySem.W.fnOf "_law_share" "_law_share" (defArgs sShare) (defBody sShare) (defScope sShare) .none kV7 dc7 pm7 an7 cd7 ct7), sl7⟩) (c7 : PySem.W.codeIn K cd7 "_law_share" = true) (k7 : PySem.W.keepIn K (.ref f7) = true)
    (a9 : PySem.W.nsIn K mainGlobals "law" = some (some (.ref f9))) (l9 : K.lookup f9 = some ⟨oc9, od9, .func (PySem.W.fnOf "law" "law" (defArgs sLaw) (defBody sLaw) (defScope sLaw) .none kV9 dc9 pm9 an9 cd9 ct9), sl9⟩) (c9 : PySem.W.codeIn K cd9 "law" = true) (k9 : PySem.W.keepIn K (.ref f9) = true)
    (z_len : PySem.W.nsIn K mainGlobals "len" = some none)
    (z_range : PySem.W.nsIn K mainGlobals "range" = some none)
    (z_sum : PySem.W.nsIn K mainGlobals "sum" = some none)
    (nMOST_BEATS : PySem.W.nsIn K mainGlobals "MOST_BEATS" = some (some (.int 64 tkMOST_BEATS)))
    (nMOST_WHOLE : PySem.W.nsIn K mainGlobals "MOST_WHOLE" = some (some (.int 1000000000000 tkMOST_WHOLE)))
    (aC : PySem.W.nsIn K mainGlobals "Stream" = some (some (.ref C)))
    (ag1 : PySem.W.findIn K (.ref C) "__init__" = some (some (.ref g1)))
    (ig1 : PySem.W.isFn K (.ref g1) = true)
    (lg1 : K.lookup g1 = some ⟨ocg1, odg1, .func (PySem.W.fnOf "__init__" "Stream.__init__" (defArgs sInit) (defBody sInit) (defScope sInit) .none kVg1 dcg1 pmg1 ang1 cdg1 ctg1), slg1⟩)
    (cg1 : PySem.W.codeIn K cdg1 "Stream.__init__" = true)
    (kg1 : PySem.W.keepIn K (.ref g1) = true)
    (ag2 : PySem.W.findIn K (.ref C) "next" = some (some (.ref g2)))
    (ig2 : PySem.W.isFn K (.ref g2) = true)
    (lg2 : K.lookup g2 = some ⟨ocg2, odg2, .func (PySem.W.fnOf "next" "Stream.next" (defArgs sNext) (defBody sNext) (defScope sNext) .none kVg2 dcg2 pmg2 ang2 cdg2 ctg2), slg2⟩)
    (cg2 : PySem.W.codeIn K cdg2 "Stream.next" = true)
    (kg2 : PySem.W.keepIn K (.ref g2) = true)
    (pgC : PySem.W.plainGet K C Str.empty = true)
    (hdC : PySem.W.hasDictIn K C = true)
    (poC : PySem.W.plainOver K C = true)
    (saC : PySem.W.findIn K (.ref C) "__setattr__" = some (some (.builtin "object.__setattr__")))
    (mkC : PySem.W.makesIn K C = true)
    (kcC : PySem.W.keepIn K (.ref C) = true)
    (nW : PySem.W.findIn K (.ref C) "whole" = some none)
    (nL : PySem.W.findIn K (.ref C) "left" = some none)
    (nT : PySem.W.findIn K (.ref C) "told" = some none)
    : ∃ fd : FuncData, (∀ (s : Shared) (v : Value), BindsTo s fd ⟨[v], []⟩ [("_law_script", v)]) ∧ ∀ base : Heap, K.In base → base.Ns mainGlobals mg → FnOk l.prog w K mg base (CX0) 4 fa fd ["_law_script"] (spLaw K) := by
  have e := hfa.symm.trans (PySem.W.mg_of X G a9)
  cases e
  have F1 := fun_mk (st := sPulsed) l1 c1 k1
  have b1 := F1.binds (ps := ["whole", "shares"]) fun _ _ _ _ _ _ us hl => match us, hl with | [_, _], _ => rfl
  have g1 := PySem.W.mg_of X G a1
  have F2 := fun_mk (st := sCheck) l2 c2 k2
  have b2 := F2.binds (ps := ["beats", "pulses"]) fun _ _ _ _ _ _ us hl => match us, hl with | [_, _], _ => rfl
  have g2 := PySem.W.mg_of X G a2
  have F3 := fun_mk (st := sAhead) l3 c3 k3
  have b3 := F3.binds (ps := ["at", "beats", "pulses"]) fun _ _ _ _ _ _ us hl => match us, hl with | [_, _, _], _ => rfl
  have g3 := PySem.W.mg_of X G a3
  have F4 := fun_mk (st := sEven) l4 c4 k4
  have b4 := F4.binds (ps := ["beats", "pulses", "turn"]) fun _ _ _ _ _ _ us hl => match us, hl with | [_, _, _], _ => rfl
  have g4 := PySem.W.mg_of X G a4
  have F5 := fun_mk (st := sStart) l5 c5 k5
  have b5 := F5.binds (ps := ["_law_script"]) fun _ _ _ _ _ _ us hl => match us, hl with | [_], _ => rfl
  have g5 := PySem.W.mg_of X G a5
  have F6 := fun_mk (st := sDrawn) l6 c6 k6
  have b6 := F6.binds (ps := ["_law_state", "_law_many"]) fun _ _ _ _ _ _ us hl => match us, hl with | [_, _], _ => rfl
  have g6 := PySem.W.mg_of X G a6
  have F7 := fun_mk (st := sShare) l7 c7 k7
  have b7 := F7.binds (ps := ["_law_state"]) fun _ _ _ _ _ _ us hl => match us, hl with | [_], _ => rfl
  have g7 := PySem.W.mg_of X G a7
  have F9 := fun_mk (st := sLaw) l9 c9 k9
  have m_len := PySem.W.mg_none_of X G z_len
  have m_range := PySem.W.mg_none_of X G z_range
  have m_sum := PySem.W.mg_none_of X G z_sum
  have mcMOST_BEATS : ∃ u, mg "MOST_BEATS" = some u ∧ RelV (.int 64) u := ⟨_, PySem.W.mg_of X G nMOST_BEATS, _, rfl⟩
  have mcMOST_WHOLE : ∃ u, mg "MOST_WHOLE" = some u ∧ RelV (.int 1000000000000) u := ⟨_, PySem.W.mg_of X G nMOST_WHOLE, _, rfl⟩
  have T : TxtS K mg C := ⟨⟨pgC, hdC, poC, saC⟩, nW, nL, nT, PySem.W.mg_of X G aC⟩
  have Fg1 := fun_mk (st := sInit) lg1 cg1 kg1
  have Fg2 := fun_mk (st := sNext) lg2 cg2 kg2
  have bg1 := Fg1.binds (ps := ["self", "whole"]) fun _ _ _ _ _ _ us hl => match us, hl with | [_, _], _ => rfl
  have bg2 := Fg2.binds (ps := ["self", "share"]) fun _ _ _ _ _ _ us hl => match us, hl with | [_, _], _ => rfl
  exact ⟨PySem.W.fnOf "law" "law" (defArgs sLaw) (defBody sLaw) (defScope sLaw) .none kV9 dc9 pm9 an9 cd9 ct9, fun s v => .of_eq rfl, fun base _ _ => ok_law F9 T mcMOST_WHOLE ⟨mkC, ag1, ig1, kcC⟩ Fg1 bg1 Fg2 bg2 ⟨ag2, ig2, kg2⟩ F1 b1 (PySem.W.mg_of X G a1) F5 b5 g5 F6 b6 g6 F7 b7 g7 F4 b4 g4 F2 b2 (PySem.W.mg_of X G a2) mcMOST_BEATS F3 b3 g3 m_len m_range m_sum⟩
end K08
open PySem PySem.W PyProof.Rows
set_option maxRecDepth 100000 in
set_option maxHeartbeats 0 in
theorem PySem.Challenge.cw_pulseshare_k08_whole_never_a_pulse_apart_holds : PySem.Challenge.rw_pulseshare_k08_whole_never_a_pulse_apart.Holds := by
  w_on; o_law; k_head; (case hw => w_witness2)
  k_fill
  refine L2.walk_of (l := PySem.Challenge.rw_pulseshare_k08_whole_never_a_pulse_apart) (n := 63) (k := 4) (x := "_law_script") (CX := fun _ => L2.CX0) (sp := fun w => Cm.spLaw _) rfl (by decide) rfl ⟨rfl, by decide, by decide⟩ (fun w h Y => PySem.W.kIn_of Y) ?F (fun _ _ a ns hl hO hS => ⟨a, ns, rfl, Cm.Scr.of hO hS, fun _ => rfl⟩) (fun _ _ _ _ _ h => h)
  case F =>
    intro w mg fa h KX G hmg
    refine' K08.all_mk KX G hmg ?a1 ?l1 ?c1 ?k1 ?a2 ?l2 ?c2 ?k2 ?a3 ?l3 ?c3 ?k3 ?a4 ?l4 ?c4 ?k4 ?a5 ?l5 ?c5 ?k5 ?a6 ?l6 ?c6 ?k6 ?a7 ?l7 ?c7 ?k7 ?a9 ?l9 ?c9 ?k9 ?z_len ?z_range ?z_sum ?nMOST_BEATS ?nMOST_WHOLE ?aC ?ag1 ?ig1 ?lg1 ?cg1 ?kg1 ?ag2 ?ig2 ?lg2 ?cg2 ?kg2 ?pgC ?hdC ?poC ?saC ?mkC ?kcC ?nW ?nL ?nT
    (case a1 => k_is)
    (case l1 => k_is)
    (case c1 => k_is)
    (case k1 => k_is)
    (case a2 => k_is)
    (case l2 => k_is)
    (case c2 => k_is)
    (case k2 => k_is)
    (case a3 => k_is)
    (case l3 => k_is)
    (case c3 => k_is)
    (case k3 => k_is)
    (case a4 => k_is)
    (case l4 => k_is)
    (case c4 => k_is)
    (case k4 => k_is)
    (case a5 => k_is)
    (case l5 => k_is)
    (case c5 => k_is)
    (case k5 => k_is)
    (case a6 => k_is)
    (case l6 => k_is)
    (case c6 => k_is)
    (case k6 => k_is)
    (case a7 => k_is)
    (case l7 => k_is)
    (case c7 => k_is)
    (case k7 => k_is)
    (case a9 => k_is)
    (case l9 => k_is)
    (case c9 => k_is)
    (case k9 => k_is)
    (case z_len => k_is)
    (case z_range => k_is)
    (case z_sum => k_is)
    (case nMOST_BEATS => k_is)
    (case nMOST_WHOLE => k_is)
    (case aC => k_is)
    (case ag1 => k_is)
    (case ig1 => k_is)
    (case lg1 => k_is)
    (case cg1 => k_is)
    (case kg1 => k_is)
    (case ag2 => k_is)
    (case ig2 => k_is)
    (case lg2 => k_is)
    (case cg2 => k_is)
    (case kg2 => k_is)
    (case pgC => k_is)
    (case hdC => k_is)
    (case poC => k_is)
    (case saC => k_is)
    (case mkC => k_is)
    (case kcC => k_is)
    (case nW => k_is)
    (case nL => k_is)
    (case nT => k_is)
