import PyProof.Rows.All
import Wide.All
import OpenK.AllK
import Wide.FinOn
import HandS.ForExc
import HandS.Comp
import HandS.IsInst
import HandS.Wide
import PySem.Challenge.RW_pulseshare_k02_even_frames
set_option Elab.async false
set_option linter.all false
set_option maxRecDepth 100000
set_option maxHeartbeats 2000000
namespace Cm
open PySem PySem.Spec PyProof.Rows L2
/-! ### heaps -/
/-- all that is tracked but p stands as it did -/
def But (p : Addr) (H H' : Hp) : Prop := ∀ b o, H b = some o → b ≠ p → H' b = some o
theorem But.refl (p : Addr) (H : Hp) : But p H H := fun _ _ h _ => h
theorem But.trans {p : Addr} {H H1 H2 : Hp} (a : But p H H1) (b : But p H1 H2) : But p H H2 := fun c o h n => b c o (a c o h n) n
theorem But.of_same {p : Addr} {H H1 : Hp} (a : Same H H1) : But p H H1 := fun c o h _ => a c o h
theorem But.upd {p : Addr} {H : Hp} {o : HO} : But p H (upd H p o) := fun b z e n => by
  rw [upd_ne n]
  exact e
theorem same_upd {H : Hp} {p : Addr} {o : HO} (h : H p = none) : Same H (upd H p o) := fun b x e => by
  rw [upd_ne (ne_of_none e h)]
  exact e
theorem But.free {p : Addr} {H H' : Hp} (e : But p H H') {l : Addr} (n : l ≠ p) (h : H' l = Option.none) : H l = Option.none := by
  cases q : H l with
  | none => rfl
  | some o =>
    rw [e l o q n] at h
    cases h
/-- a list that is read, not the one at p that may be written -/
theorem But.seq {K : PySem.W.Frag} {p : Addr} {H H' : Hp} {a : Addr} {xs : List V} (e : But p H H') (n : a ≠ p) (h : SqL K H a xs) : SqL K H' a xs := by
  rcases h with (h | ⟨o, h⟩) | h
  · exact .inl (.inl (e _ _ h n))
  · exact .inl (.inr ⟨o, e _ _ h n⟩)
  · exact .inr h
theorem int_at {ns : List Int} {i : Nat} {y : V} (hi : (ns.map V.int)[i]? = some y) : ∃ z, ns[i]? = some z ∧ y = V.int z := by
  rw [List.getElem?_map] at hi
  cases e : ns[i]? with
  | none =>
    rw [e] at hi
    cases hi
  | some z =>
    rw [e] at hi
    exact ⟨z, rfl, (Option.some.inj hi).symm⟩
/-! ### the law's drawing state -/
def stV (a : Addr) (c m l : Int) : List V := [.ref a, .int c, .int m, .int l]
/-- the script's list: known, never written -/
def Scr (K : PySem.W.Frag) (H : Hp) (a : Addr) (xs : List V) : Prop := (∃ o, H a = some (.frz o (.lst xs))) ∨ ∀ H', SqL K H' a xs
theorem Scr.seq {K : PySem.W.Frag} {H : Hp} {a : Addr} {xs : List V} (h : Scr K H a xs) : SqL K H a xs := by
  rcases h with ⟨o, h⟩ | h
  · exact .inl (.inr ⟨o, h⟩)
  · exact h H
theorem Scr.of {K : PySem.W.Frag} {H : Hp} {a : Addr} {xs : List V} (hO : Only H) (h : SqL K H a xs) : Scr K H a xs := by
  rcases h with (h | ⟨o, h⟩) | h
  · rcases hO a with z | ⟨o, ys, z⟩
    · rw [z] at h
      cases h
    · rw [z] at h
      cases h
  · exact .inl ⟨o, h⟩
  · exact .inr fun _ => .inr h
theorem Scr.same {K : PySem.W.Frag} {H H' : Hp} {a : Addr} {xs : List V} (h : Scr K H a xs) (e : Same H H') : Scr K H' a xs := by
  rcases h with ⟨o, h⟩ | h
  · exact .inl ⟨o, e _ _ h⟩
  · exact .inr h
theorem Scr.but {K : PySem.W.Frag} {H H' : Hp} {a p : Addr} {xs ys : List V} (h : Scr K H a xs) (e : But p H H') (hp : H p = some (.lst ys)) : Scr K H' a xs := by
  rcases h with ⟨o, h⟩ | h
  · exact .inl ⟨o, e _ _ h (ne_of h hp (by intro z; cases z))⟩
  · exact .inr h
/-- at p stands the drawing state over the script at a -/
def StAt (K : PySem.W.Frag) (p a : Addr) (ns : List Int) (H : Hp) : Prop :=
  ∃ c m l : Int, H p = some (.lst (stV a c m l)) ∧ 0 ≤ c ∧ 0 ≤ m ∧ m < 2147483647 ∧ 0 ≤ l ∧ Scr K H a (ns.map V.int)
theorem StAt.same {K : PySem.W.Frag} {p a : Addr} {ns : List Int} {H H' : Hp} (h : StAt K p a ns H) (e : Same H H') : StAt K p a ns H' := by
  obtain ⟨c, m, l, h1, h2, h3, h4, h5, h7⟩ := h
  exact ⟨c, m, l, e _ _ h1, h2, h3, h4, h5, h7.same e⟩
theorem StAt.ne {K : PySem.W.Frag} {p a b : Addr} {ns : List Int} {H : Hp} (h : StAt K p a ns H) (n : H b = none) : p ≠ b := by
  obtain ⟨c, m, l, h1, _⟩ := h
  exact ne_of_none h1 n
/-- another list is written -/
theorem StAt.but {K : PySem.W.Frag} {p a b : Addr} {ns : List Int} {H H' : Hp} {ys : List V} (h : StAt K p a ns H) (e : But b H H') (n : b ≠ p) (hb : H b = some (.lst ys)) : StAt K p a ns H' := by
  obtain ⟨c, m, l, h1, h2, h3, h4, h5, h7⟩ := h
  exact ⟨c, m, l, e _ _ h1 n.symm, h2, h3, h4, h5, h7.but e hb⟩
def spStart (K : PySem.W.Frag) : Sp := fun vs H Q _ => ∃ (a : Addr) (ns : List Int), vs = [.ref a] ∧ Scr K H a (ns.map V.int) ∧
  ∀ H' p, Same H H' → H p = none → StAt K p a ns H' → Q (.ref p) H'
/-- a drawn number, from 0 to many less one -/
def spDrawn (K : PySem.W.Frag) : Sp := fun vs H Q _ => ∃ (p a : Addr) (ns : List Int) (many : Int), vs = [.ref p, .int many] ∧ StAt K p a ns H ∧ 0 < many ∧ many.natAbs < 2 ^ 200 ∧
  ∀ H' v, But p H H' → StAt K p a ns H' → 0 ≤ v → v < many → Q (.int v) H'
/-- two things that are the same: flat ones, or lists or tuples of flat ones -/
inductive Flat : V → Prop where
  | int (i : Int) : Flat (.int i)
  | bl (b : Bool) : Flat (.bl b)
  | non : Flat .non
  | str (x : Str) : Flat (.str x)
inductive Twin (K : PySem.W.Frag) (H : Hp) : V → V → Prop where
  | flat {x : V} (h : Flat x) : Twin K H x x
  | lst {p q : Addr} {xs : List V} (hp : H p = some (.lst xs)) (hq : H q = some (.lst xs)) (hf : ∀ x ∈ xs, Flat x) (hl : xs.length ≤ 1000000) : Twin K H (.ref p) (.ref q)
  | tup {p q : Addr} {xs : List V} (hp : H p = some (.tup xs)) (hq : H q = some (.tup xs)) (hf : ∀ x ∈ xs, Flat x) (hl : xs.length ≤ 1000000) : Twin K H (.ref p) (.ref q)
def spFlat : Sp := fun vs H Q _ => ∃ x : V, vs = [x, x] ∧ Flat x ∧ ∀ H', Same H H' → Q (.bl true) H'
def spSame (K : PySem.W.Frag) : Sp := fun vs H Q _ => ∃ x y : V, vs = [x, y] ∧ Twin K H x y ∧ ∀ H', Same H H' → Q (.bl true) H'
/-! ### numbers -/
theorem mod_lt {a b : Int} (h : 0 < b) : 0 ≤ a % b ∧ a % b < b := ⟨Int.emod_nonneg _ (by omega), Int.emod_lt_of_pos _ h⟩
end Cm
namespace Cm
open PySem PySem.Spec PyProof.Rows L2
/-! ### the even frame's beats -/
/-- whether beat n of the endless row of a share is on -/
def bitE (b k n : Int) : Int := (n + 1) * k / b - n * k / b
theorem bit_step {b k : Int} (hb : 0 < b) (h0 : 0 ≤ k) (hk : k ≤ b) (n : Int) :
    (n * k % b + k < b ∧ bitE b k n = 0 ∧ (n + 1) * k % b = n * k % b + k) ∨ (b ≤ n * k % b + k ∧ bitE b k n = 1 ∧ (n + 1) * k % b = n * k % b + k - b) := by
  have e0 : b * (n * k / b) + n * k % b = n * k := Int.mul_ediv_add_emod _ _
  have l0 : 0 ≤ n * k % b := Int.emod_nonneg _ (by omega)
  have l1 : n * k % b < b := Int.emod_lt_of_pos _ hb
  have e1 : (n + 1) * k = (n * k % b + k) + b * (n * k / b) := by rw [Int.add_mul, Int.one_mul]; omega
  unfold bitE
  rw [e1, Int.add_mul_ediv_left _ _ (by omega : b ≠ 0), Int.add_mul_emod_self_left]
  by_cases c : n * k % b + k < b
  · left
    rw [Int.ediv_eq_zero_of_lt (by omega) c, Int.emod_eq_of_lt (by omega) c]
    exact ⟨c, by omega, rfl⟩
  · right
    have e2 : n * k % b + k = (n * k % b + k - b) + b * 1 := by omega
    have d1 : (n * k % b + k) / b = 1 := by
      rw [e2, Int.add_mul_ediv_left _ _ (by omega : b ≠ 0)]
      have z : (n * k % b + k - b) / b = 0 := Int.ediv_eq_zero_of_lt (by omega) (by omega)
      rw [z]
      rfl
    have d2 : (n * k % b + k) % b = n * k % b + k - b := by
      have z : (n * k % b + k - b + b * 1) % b = n * k % b + k - b := by
        rw [Int.add_mul_emod_self_left]
        exact Int.emod_eq_of_lt (by omega) (by omega)
      rw [← e2] at z
      exact z
    exact ⟨by omega, by omega, d2⟩
theorem bit_01 {b k : Int} (hb : 0 < b) (h0 : 0 ≤ k) (hk : k ≤ b) (n : Int) : bitE b k n = 0 ∨ bitE b k n = 1 := by
  rcases bit_step hb h0 hk n with ⟨_, h, _⟩ | ⟨_, h, _⟩
  · exact .inl h
  · exact .inr h
/-- the even frame of a share by a turn: its first n beats -/
def evenN (b k t : Int) (n : Nat) : List Int := (List.range n).map fun (i : Nat) => bitE b k (t + (i : Int))
def evenL (b k t : Int) : List Int := evenN b k t b.toNat
theorem evenN_len (b k t : Int) (n : Nat) : (evenN b k t n).length = n := by
  unfold evenN
  rw [List.length_map, List.length_range]
theorem evenN_succ (b k t : Int) (n : Nat) : evenN b k t (n + 1) = evenN b k t n ++ [bitE b k (t + (n : Int))] := by
  unfold evenN
  rw [List.range_succ, List.map_append]
  rfl
theorem evenN_sum (b k t : Int) (n : Nat) : (evenN b k t n).sum = (t + (n : Int)) * k / b - t * k / b := by
  induction n with
  | zero =>
    show (0 : Int) = _
    rw [show t + ((0 : Nat) : Int) = t by omega]
    omega
  | succ n ih =>
    rw [evenN_succ, List.sum_append, ih]
    have e : ([bitE b k (t + (n : Int))] : List Int).sum = bitE b k (t + (n : Int)) := by
      show bitE b k (t + (n : Int)) + 0 = _
      omega
    rw [e]
    unfold bitE
    rw [show t + (n : Int) + 1 = t + ((n + 1 : Nat) : Int) by omega]
    omega
theorem evenL_sum {b k t : Int} (hb : 0 < b) : (evenL b k t).sum = k := by
  unfold evenL
  rw [evenN_sum, show ((b.toNat : Nat) : Int) = b by omega, Int.add_mul, Int.add_mul_ediv_left _ _ (by omega : b ≠ 0)]
  omega
theorem evenL_len {b k t : Int} : (evenL b k t).length = b.toNat := evenN_len _ _ _ _
/-! ### promises of the share, the law's own frame, the program's -/
def GoodShare (b k : Int) : Prop := 1 ≤ b ∧ b ≤ 64 ∧ 0 ≤ k ∧ k ≤ b
def spShare (K : PySem.W.Frag) : Sp := fun vs H Q _ => ∃ (p a : Addr) (ns : List Int), vs = [.ref p] ∧ StAt K p a ns H ∧
  ∀ H' t b k, But p H H' → StAt K p a ns H' → H t = none → H' t = some (.tup [.int b, .int k]) → GoodShare b k → Q (.ref t) H'
/-- what makes the list of an even frame -/
def spMake : Sp := fun vs H Q _ => ∃ (b k t : Int), vs = [.int b, .int k, .int t] ∧ GoodShare b k ∧ t.natAbs < 2 ^ 200 ∧
  ∀ H' r, Same H H' → H r = none → H' r = some (.lst ((evenL b k t).map V.int)) → Q (.ref r) H'
def spCheck : Sp := fun vs H Q _ => ∃ (b k : Int), vs = [.int b, .int k] ∧ GoodShare b k ∧ Q .non H
def spAhead : Sp := fun vs H Q _ => ∃ (n b k : Int), vs = [.int n, .int b, .int k] ∧ GoodShare b k ∧ Q (.int (n * k / b)) H
theorem good_div {b k : Int} (h : GoodShare b k) : CDiv 0 b := ⟨by have := h.1; omega, by have := h.2.1; omega⟩
end Cm
namespace Cm
open PySem PySem.Spec PyProof.Rows L2
def spLaw (K : PySem.W.Frag) : Sp := fun vs H Q _ => ∃ (a : Addr) (ns : List Int), vs = [.ref a] ∧ Scr K H a (ns.map V.int) ∧ ∀ H', Q (.bl true) H'
theorem flat_ints (ns : List Int) : ∀ x ∈ ns.map V.int, Flat x := fun x hx => by
  obtain ⟨i, _, rfl⟩ := List.mem_map.mp hx
  exact .int i
theorem StAt.nlst {K : PySem.W.Frag} {p a b : Addr} {ns : List Int} {H : Hp} (h : StAt K p a ns H) (n : H b = none) : b ≠ p := (h.ne n).symm
end Cm
namespace K02
open PySem PySem.Spec PyProof.Rows L2 Cm
def topS (i : Nat) : Stmt := PySem.Challenge.pw_pulseshare_k02_even_frames.main.body.getD i (.Pass ⟨0, 0, 0, 0⟩)
abbrev sCheck : Stmt := topS 5
abbrev sAhead : Stmt := topS 6
abbrev sEven : Stmt := topS 7
abbrev sStart : Stmt := topS 9
abbrev sDrawn : Stmt := topS 10
abbrev sSame : Stmt := topS 11
abbrev sShare : Stmt := topS 12
abbrev sLEven : Stmt := topS 14
abbrev sLaw : Stmt := topS 15
theorem scStart : FnScope ["_law_script", "_law_mixed", "_law_cell"] ["_law_script"] (defScope sStart) := ⟨rfl, rfl, rfl, by decide +kernel, rfl, by decide +kernel, by decide +kernel⟩
theorem scDrawn : FnScope ["_law_state", "_law_many", "_law_found", "_law_cell"] ["_law_state", "_law_many"] (defScope sDrawn) := ⟨rfl, rfl, rfl, by decide +kernel, rfl, by decide +kernel, by decide +kernel⟩
theorem scSame : FnScope ["_law_found", "_law_due", "_law_k"] ["_law_found", "_law_due"] (defScope sSame) := ⟨rfl, rfl, rfl, by decide +kernel, rfl, by decide +kernel, by decide +kernel⟩
theorem scShare : FnScope ["_law_state", "_law_beats"] ["_law_state"] (defScope sShare) := ⟨rfl, rfl, rfl, by decide +kernel, rfl, by decide +kernel, by decide +kernel⟩
theorem scLEven : FnScope ["_law_beats", "_law_pulses", "_law_turn", "_law_left", "_law_found", "_law_k"] ["_law_beats", "_law_pulses", "_law_turn"] (defScope sLEven) := ⟨rfl, rfl, rfl, by decide +kernel, rfl, by decide +kernel, by decide +kernel⟩
theorem scCheck : FnScope ["beats", "pulses"] ["beats", "pulses"] (defScope sCheck) := ⟨rfl, rfl, rfl, by decide +kernel, rfl, by decide +kernel, by decide +kernel⟩
theorem scAhead : FnScope ["at", "beats", "pulses"] ["at", "beats", "pulses"] (defScope sAhead) := ⟨rfl, rfl, rfl, by decide +kernel, rfl, by decide +kernel, by decide +kernel⟩
theorem scEven : FnScope ["beats", "pulses", "turn", "frame", "place", "ahead", "behind"] ["beats", "pulses", "turn"] (defScope sEven) := ⟨rfl, rfl, rfl, by decide +kernel, rfl, by decide +kernel, by decide +kernel⟩
theorem scLaw : FnScope ["_law_script", "_law_state", "_law_turn", "_law_beats", "_law_pulses", "_law_far", "_law_by", "_law_due", "_law_again", "_law_found"] ["_law_script"] (defScope sLaw) := ⟨rfl, rfl, rfl, by decide +kernel, rfl, by decide +kernel, by decide +kernel⟩
section
variable {P : Program} {w : World} {K : PySem.W.Frag} {mg : Str → Option Value} {base : Heap}
theorem ok_start {f : Addr} {fd : FuncData} (F : Fun K "_law_start" "_law_start" sStart f fd) : FnOk P w K mg base CX0 1 f fd ["_law_script"] (spStart K) := by
  refine F.ok scStart (fun vs H Q E h => ?_) (fun cdv A outer s H vs Q E hr h => ?_)
  · obtain ⟨a, ns, rfl, _⟩ := h
    rfl
  · obtain ⟨a, ns, rfl, hS, q⟩ := h
    refine ⟨_, pss_cons (ps_set (i := 1) scStart.nd rfl (.inl rfl) pe_int)
      (pss_cons (ps_for PassesOwn.never rfl (pi_list (pv 0)) (pg_name (i := 2) scStart.nd rfl (.inl rfl))
        (pss_one (ps_set (i := 1) scStart.nd rfl (.inl rfl) (pe_op op_mod (pe_op op_add (pe_op op_add (pe_op op_mul (pv 1) pe_int) (pv 2)) pe_int) pe_int))))
      (pss_one (ps_ret (pe_lst (pa_cons (pv 0) (pa_cons pe_int (pa_cons (pv 1) (pa_cons pe_int pa_nil)))))))), ?_⟩
    refine ⟨_, rfl, a, rfl, ⟨_, hS.seq⟩, for_list (K := K) (a := a) (xs := ns.map V.int) (fun i σ H' => ∃ (m : Int) (v : Option V), σ = [some (.ref a), some (.int m), v] ∧ 0 ≤ m ∧ m < 2147483647 ∧ H' = H)
      ⟨1, none, rfl, by decide, by decide, rfl⟩ (fun i σ H' _ ⟨_, _, _, _, _, e⟩ => by rw [e]; exact hS.seq) ?_ ?_⟩
    · rintro i y σ H' hi ⟨m, v, rfl, h0, h1, rfl⟩
      obtain ⟨z, hz, rfl⟩ := int_at hi
      refine ⟨_, rfl, _, _, rfl, rfl, .inl ⟨by omega, by omega⟩, _, rfl, _, _, rfl, rfl, _, _, rfl, rfl, _, _, rfl, rfl, (by show (0 : Int) < 2147483647; decide), ?_⟩
      exact ⟨_, _, rfl, (mod_lt (by decide)).1, (mod_lt (by decide)).2, rfl⟩
    · rintro σ H' ⟨m, v, rfl, h0, h1, rfl⟩
      refine ⟨_, rfl, _, rfl, (by show 4 ≤ sizeLine; decide), fun p hp => ?_⟩
      exact q _ p (same_upd hp) hp ⟨0, m, 0, upd_same, by decide, h0, h1, by decide, hS.same (same_upd hp)⟩
theorem ok_drawn {f : Addr} {fd : FuncData} (F : Fun K "_law_drawn" "_law_drawn" sDrawn f fd) (ml : mg "len" = none) : FnOk P w K mg base CX0 1 f fd ["_law_state", "_law_many"] (spDrawn K) := by
  refine F.ok scDrawn (fun vs H Q E h => ?_) (fun cdv A outer s H vs Q E hr h => ?_)
  · obtain ⟨p, a, ns, many, rfl, _⟩ := h
    rfl
  · obtain ⟨p, a, ns, many, rfl, ⟨c, m, l, hp, hc, hm0, hm1, hl, hS⟩, h0, hb, q⟩ := h
    refine ⟨_, pss_cons (ps_if (pt_cmpR op_gt (pe_ix ix_list (pv 0) pe_int (fun _ _ => rfl)) pe_int (nomark _))
        (pss_cons (ps_set (i := 2) scDrawn.nd rfl (.inl rfl) (pe_op op_mod (pe_ix ix_list (pv 0) pe_int (fun _ _ => rfl)) (pv 1)))
        (pss_cons (ps_asg (pe_op op_fdivW (pe_ix ix_list (pv 0) pe_int (fun _ _ => rfl)) (pv 1)) (pg_sub (pv 0) pe_int set_list))
        (pss_one (ps_ret (pv 2))))) pss_nil)
      (pss_cons (ps_asg (pe_op op_add (pe_ix ix_list (pv 0) pe_int (fun _ _ => rfl)) pe_int) (pg_sub (pv 0) pe_int set_list))
      (pss_cons (ps_if (pt_cmpR op_le (pe_ix ix_list (pv 0) pe_int (fun _ _ => rfl)) (pe_callB call_len_seq (by rfl) ml PySem.boot_len (pa_cons (pe_ix ix_list (pv 0) pe_int (fun _ _ => rfl)) pa_nil)) (nomark _))
         (pss_cons (ps_set (i := 3) scDrawn.nd rfl (.inl rfl) (pe_ix ix_list (pe_ix ix_list (pv 0) pe_int (fun _ _ => rfl)) (pe_op op_sub (pe_ix ix_list (pv 0) pe_int (fun _ _ => rfl)) pe_int) (fun _ _ => rfl)))
         (pss_cons (ps_asg (pe_ifExp (pt_cmpR op_ge (pv 3) (pe_op op_pow pe_int pe_int) (nomark _)) (pe_op op_fdivW (pv 3) (pv 1)) pe_int) (pg_sub (pv 0) pe_int set_list))
         (pss_one (ps_ret (pe_op op_mod (pv 3) (pv 1)))))) pss_nil)
      (pss_cons (ps_asg (pe_op op_mod (pe_op op_add (pe_op op_mul (pe_ix ix_list (pv 0) pe_int (fun _ _ => rfl)) pe_int) pe_int) pe_int) (pg_sub (pv 0) pe_int set_list))
      (pss_one (ps_ret (pe_op op_mod (pe_op op_fdiv (pe_ix ix_list (pv 0) pe_int (fun _ _ => rfl)) pe_int) (pv 1))))))), ?_⟩
    have hcd : CDivW l many := wide_div h0 hb (by decide) (by decide)
    refine ⟨_, rfl, p, _, _, _, rfl, rfl, SqL.of hp, atI_nat (j := 3) rfl, _, _, rfl, rfl, _, rfl, ite2 (fun e => ?_) (fun e => ?_)⟩
    · -- the rest of a great cell
      refine ⟨_, rfl, p, _, _, _, rfl, rfl, SqL.of hp, atI_nat (j := 3) rfl, _, rfl, _, _, rfl, rfl, h0, ?_⟩
      refine ⟨_, rfl, p, _, _, _, rfl, rfl, SqL.of hp, atI_nat (j := 3) rfl, _, rfl, _, _, rfl, rfl, hcd, _, rfl, p, _, _, 3, rfl, rfl, hp, rfl, ?_⟩
      refine ⟨_, rfl, q _ _ But.upd ⟨c, m, l / many, upd_same, hc, hm0, hm1, Int.ediv_nonneg hl (by omega), hS.but But.upd hp⟩ (mod_lt h0).1 (mod_lt h0).2⟩
    · -- the next cell
      refine ⟨_, rfl, p, _, _, _, rfl, rfl, SqL.of hp, atI_nat (j := 1) rfl, _, _, rfl, rfl, _, rfl, p, _, _, 1, rfl, rfl, hp, rfl, ?_⟩
      have hp1 : (upd H p (.lst (stV a (c + 1) m l))) p = some (.lst (stV a (c + 1) m l)) := upd_same
      have hS1 : SqL K (upd H p (.lst (stV a (c + 1) m l))) a (ns.map V.int) := (hS.but But.upd hp).seq
      refine ⟨_, rfl, p, _, _, _, rfl, rfl, SqL.of hp1, atI_nat (j := 1) rfl, _, rfl, p, _, _, _, rfl, rfl, SqL.of hp1, atI_nat (j := 0) rfl, a, _, rfl, .inl hS1, _, _, rfl, rfl, _, rfl, ite2 (fun e1 => ?_) (fun e1 => ?_)⟩
      · have e2 : c + 1 ≤ ((ns.map V.int).length : Int) := of_decide_eq_true e1
        rw [List.length_map] at e2
        obtain ⟨j, rfl⟩ : ∃ j : Nat, c = (j : Int) := ⟨c.toNat, by omega⟩
        have hj : j < ns.length := by omega
        have g : (ns.map V.int)[j]? = some (V.int ns[j]) := by
          rw [List.getElem?_map, List.getElem?_eq_getElem hj]
          rfl
        refine ⟨_, rfl, p, _, _, _, rfl, rfl, SqL.of hp1, atI_nat (j := 0) rfl, _, rfl, p, _, _, _, rfl, rfl, SqL.of hp1, atI_nat (j := 1) rfl, _, _, rfl, rfl, a, _, _, _, rfl, rfl, hS1, (by rw [show (j : Int) + 1 - 1 = (j : Int) by omega]; exact atI_nat g), ?_⟩
        refine ⟨_, rfl, _, _, rfl, rfl, ⟨by decide, by decide, by decide⟩, _, _, rfl, rfl, _, rfl, ite2 (fun e3 => ?_) (fun e3 => ?_)⟩
        · have e4 : (10 : Int) ^ ((18 : Int).toNat) ≤ ns[j] := of_decide_eq_true e3
          have e5 : 0 ≤ ns[j] := Int.le_trans (by decide) e4
          refine ⟨_, rfl, _, rfl, _, _, rfl, rfl, wide_div h0 hb (by decide) (by decide), _, rfl, p, _, _, 3, rfl, rfl, hp1, rfl, ?_⟩
          rw [upd_upd]
          refine ⟨_, rfl, _, rfl, _, _, rfl, rfl, h0, q _ _ But.upd ⟨_, m, _, upd_same, by omega, hm0, hm1, Int.ediv_nonneg e5 (by omega), hS.but But.upd hp⟩ (mod_lt h0).1 (mod_lt h0).2⟩
        · refine ⟨_, rfl, p, _, _, 3, rfl, rfl, hp1, rfl, ?_⟩
          rw [upd_upd]
          refine ⟨_, rfl, _, rfl, _, _, rfl, rfl, h0, q _ _ But.upd ⟨_, m, 0, upd_same, by omega, hm0, hm1, by decide, hS.but But.upd hp⟩ (mod_lt h0).1 (mod_lt h0).2⟩
      · refine ⟨_, rfl, p, _, _, _, rfl, rfl, SqL.of hp1, atI_nat (j := 2) rfl, _, _, rfl, rfl, .inl ⟨by omega, by omega⟩, _, _, rfl, rfl, _, _, rfl, rfl, (by show (0 : Int) < 2147483647; decide), _, rfl, p, _, _, 2, rfl, rfl, hp1, rfl, ?_⟩
        rw [upd_upd]
        refine ⟨_, rfl, p, _, _, _, rfl, rfl, SqL.of upd_same, atI_nat (j := 2) rfl, _, _, rfl, rfl, ⟨by decide, by decide⟩, _, rfl, _, _, rfl, rfl, h0, q _ _ But.upd ⟨_, _, l, upd_same, by omega, (mod_lt (by decide)).1, (mod_lt (by decide)).2, hl, hS.but But.upd hp⟩ (mod_lt h0).1 (mod_lt h0).2⟩
theorem ok_share {f fD : Addr} {fd fdD : FuncData} (F : Fun K "_law_share" "_law_share" sShare f fd) (FD : Fun K "_law_drawn" "_law_drawn" sDrawn fD fdD) (bD : Binds K fdD ["_law_state", "_law_many"] []) (gD : mg "_law_drawn" = some (.ref fD)) (ml : mg "len" = none) :
    FnOk P w K mg base CX0 2 f fd ["_law_state"] (spShare K) := by
  have GD : FnOk P w K mg base CX0 1 fD fdD ["_law_state", "_law_many"] (spDrawn K) := ok_drawn FD ml
  refine F.ok scShare (fun vs H Q E h => ?_) (fun cdv A outer s H vs Q E hr h => ?_)
  · obtain ⟨p, a, ns, rfl, _⟩ := h
    rfl
  · obtain ⟨p, a, ns, rfl, hS, q⟩ := h
    refine ⟨_, pss_cons (ps_set (i := 1) scShare.nd rfl (.inl rfl) (pe_op op_add pe_int (pe_call GD hr (by rfl) gD FD.kp bD .nil pass0 (pa_cons (pv 0) (pa_cons
        (pe_ix ix_list (pe_lst (pa_cons pe_int (pa_cons pe_int (pa_cons pe_int pa_nil)))) (pe_call GD hr (by rfl) gD FD.kp bD .nil pass0 (pa_cons (pv 0) (pa_cons pe_int pa_nil))) (fun _ _ => rfl)) pa_nil)))))
      (pss_one (ps_ret (pe_tup (pa_cons (pv 1) (pa_cons
        (pe_ix ix_list (pe_lst (pa_cons pe_int (pa_cons (pv 1) (pa_cons (pe_call GD hr (by rfl) gD FD.kp bD .nil pass0 (pa_cons (pv 0) (pa_cons (pe_op op_add (pv 1) pe_int) pa_nil)))
          (pa_cons (pe_call GD hr (by rfl) gD FD.kp bD .nil pass0 (pa_cons (pv 0) (pa_cons (pe_op op_add (pv 1) pe_int) pa_nil))) pa_nil)))))
          (pe_call GD hr (by rfl) gD FD.kp bD .nil pass0 (pa_cons (pv 0) (pa_cons pe_int pa_nil))) (fun _ _ => rfl)) pa_nil))))), ?_⟩
    -- [6, 16, 64][drawn(3)]
    refine ⟨_, rfl, (by show 3 ≤ sizeLine; decide), fun l1 n1 => ?_⟩
    have t1 := hS.ne n1
    have s1 : Same H (upd H l1 (.lst [.int 6, .int 16, .int 64])) := same_upd n1
    refine ⟨_, rfl, p, a, ns, 3, rfl, hS.same s1, by decide, by decide, fun H1 v1 B1 S1 v10 v11 => ?_⟩
    have e1 : H1 l1 = some (.lst [.int 6, .int 16, .int 64]) := B1 _ _ upd_same t1.symm
    obtain ⟨x, g1, x0, x1⟩ : ∃ x : Int, atI [V.int 6, V.int 16, V.int 64] v1 = some (.int x) ∧ 0 < x ∧ x ≤ 64 := by
      have hv : v1 = 0 ∨ v1 = 1 ∨ v1 = 2 := by omega
      rcases hv with rfl | rfl | rfl
      · exact ⟨6, rfl, by decide, by decide⟩
      · exact ⟨16, rfl, by decide, by decide⟩
      · exact ⟨64, rfl, by decide, by decide⟩
    refine ⟨l1, _, _, _, rfl, rfl, SqL.of e1, g1, p, a, ns, x, rfl, S1, x0, (by omega), fun H2 v2 B2 S2 v20 v21 => ⟨_, _, rfl, rfl, ?_⟩⟩
    have bb : But p H H2 := (But.of_same s1).trans (B1.trans B2)
    -- the pulses
    refine ⟨_, rfl, _, rfl, _, rfl, _, rfl, _, _, rfl, rfl, p, a, ns, 1 + v2 + 1, rfl, S2, by omega, by omega, fun H3 v3 B3 S3 v30 v31 => ?_⟩
    refine ⟨_, rfl, _, rfl, _, _, rfl, rfl, p, a, ns, 1 + v2 + 1, rfl, S3, by omega, by omega, fun H4 v4 B4 S4 v40 v41 => ?_⟩
    refine ⟨(by show 4 ≤ sizeLine; decide), fun l2 n2 => ?_⟩
    have t2 := S4.ne n2
    have s2 : Same H4 (upd H4 l2 (.lst [.int 0, .int (1 + v2), .int v3, .int v4])) := same_upd n2
    refine ⟨_, rfl, p, a, ns, 4, rfl, S4.same s2, by decide, by decide, fun H5 v5 B5 S5 v50 v51 => ?_⟩
    have e5 : H5 l2 = some (.lst [.int 0, .int (1 + v2), .int v3, .int v4]) := B5 _ _ upd_same t2.symm
    obtain ⟨y, g5, y0, y1⟩ : ∃ y : Int, atI [V.int 0, V.int (1 + v2), V.int v3, V.int v4] v5 = some (.int y) ∧ 0 ≤ y ∧ y ≤ 1 + v2 := by
      have hv : v5 = 0 ∨ v5 = 1 ∨ v5 = 2 ∨ v5 = 3 := by omega
      rcases hv with rfl | rfl | rfl | rfl
      · exact ⟨0, rfl, by decide, by omega⟩
      · exact ⟨1 + v2, rfl, by omega, by omega⟩
      · exact ⟨v3, rfl, by omega, by omega⟩
      · exact ⟨v4, rfl, by omega, by omega⟩
    refine ⟨l2, _, _, _, rfl, rfl, SqL.of e5, g5, (by show 2 ≤ sizeLine; decide), fun t nt => ?_⟩
    have s5 : Same H5 (upd H5 t (.tup [.int (1 + v2), .int y])) := same_upd nt
    have b5 : But p H H5 := bb.trans (B3.trans (B4.trans ((But.of_same s2).trans B5)))
    exact q _ t (1 + v2) y (b5.trans (But.of_same s5)) (S5.same s5) (b5.free (S5.ne nt).symm nt) upd_same ⟨by omega, by omega, y0, y1⟩
theorem ok_leven {f : Addr} {fd : FuncData} (F : Fun K "_law_even" "_law_even" sLEven f fd) (mr : mg "range" = none) (mi : mg "int" = none) : FnOk P w K mg base CX0 1 f fd ["_law_beats", "_law_pulses", "_law_turn"] spMake := by
  refine F.ok scLEven (fun vs H Q E h => ?_) (fun cdv A outer s H vs Q E hr h => ?_)
  · obtain ⟨b, k, t, rfl, _⟩ := h
    rfl
  · obtain ⟨b, k, t, rfl, ⟨g1, g2, g3, g4⟩, ht, q⟩ := h
    refine ⟨_, pss_cons (ps_set (i := 3) scLEven.nd rfl (.inl rfl) (pe_op op_mod (pe_op op_mul (pv 2) (pv 1)) (pv 0)))
      (pss_cons (ps_set (i := 4) scLEven.nd rfl (.inl rfl) (pe_lst pa_nil))
      (pss_cons (ps_for PassesOwn.never rfl (pi_range1 rfl mr (pa_cons (pv 0) pa_nil)) (pg_name (i := 5) scLEven.nd rfl (.inl rfl))
        (pss_cons (ps_set (i := 3) scLEven.nd rfl (.inl rfl) (pe_op op_add (pv 3) (pv 1)))
        (pss_cons (ps_expr (pe_bm PySem.F.plainAttrs_list PySem.F.slot_list_append PySem.F.type_list_append mt_append (pv 4) (pa_cons (pe_callTy call_int1 (by rfl) mi PyProof.Rows.boot_int (pa_cons (pe_cmpR op_ge (pv 3) (pv 0) (nomark _)) pa_nil)) pa_nil)))
        (pss_one (ps_set (i := 3) scLEven.nd rfl (.inl rfl) (pe_op op_sub (pv 3) (pe_op op_mul (pv 0) (pe_ix ix_list (pv 4) (pe_un un_neg pe_int) (fun _ _ => rfl)))))))))
      (pss_one (ps_ret (pv 4))))), ?_⟩
    have h0 : (0 : Int) < b := by omega
    refine ⟨_, rfl, _, rfl, _, _, rfl, rfl, .inr ⟨by omega, by omega⟩, _, rfl, _, _, rfl, rfl, h0, (by show 0 ≤ sizeLine; decide), fun r nr => ?_⟩
    have s0 : Same H (upd H r (.lst [])) := same_upd nr
    refine ⟨_, rfl, b, rfl, by omega, by omega, for_range (lo := 0) (n := b.toNat) (fun i σ H' => ∃ v : Option V, σ = [some (.int b), some (.int k), some (.int t), some (.int ((t + (i : Int)) * k % b)), some (.ref r), v] ∧ Same H H' ∧ H' r = some (.lst ((evenN b k t i).map V.int)))
      ⟨none, (by rw [show t + ((0 : Nat) : Int) = t by omega]; rfl), s0, upd_same⟩ ?_ ?_⟩
    · rintro i σ H' hi ⟨v, rfl, s1, e1⟩
      refine ⟨_, rfl, _, rfl, _, _, rfl, rfl, ?_⟩
      refine ⟨_, rfl, .inl ⟨rfl, _, SqL.of e1⟩, _, rfl, _, rfl, _, _, rfl, rfl, .inr ⟨_, rfl, r, _, _, rfl, rfl, e1, ?_, ?_⟩⟩
      · rw [List.length_map, evenN_len]
        exact small1000 (by omega)
      have e2 : (if decide (b ≤ (t + (i : Int)) * k % b + k) = true then (1 : Int) else 0) = bitE b k (t + (i : Int)) := by
        rcases bit_step h0 g3 g4 (t + (i : Int)) with ⟨c1, c2, _⟩ | ⟨c1, c2, _⟩
        · rw [decide_eq_false (by omega), c2]
          rfl
        · rw [decide_eq_true c1, c2]
          rfl
      rw [e2]
      refine ⟨_, rfl, _, rfl, _, rfl, 1, rfl, r, _, _, _, rfl, rfl, SqL.of upd_same, atI_last _ _, _, _, rfl, rfl, .inl ⟨by omega, by omega⟩, _, _, rfl, rfl, ?_⟩
      refine ⟨some (.int (0 + (i : Int))), ?_, fun c o e => ?_, ?_⟩
      · have e3 : (t + (i : Int)) * k % b + k - b * bitE b k (t + (i : Int)) = (t + ((i + 1 : Nat) : Int)) * k % b := by
          rw [show t + ((i + 1 : Nat) : Int) = t + (i : Int) + 1 by omega]
          rcases bit_step h0 g3 g4 (t + (i : Int)) with ⟨c1, c2, c3⟩ | ⟨c1, c2, c3⟩
          · rw [c2, c3]
            omega
          · rw [c2, c3]
            omega
        rw [← e3]
        rfl
      · rw [upd_ne (ne_of_none e nr)]
        exact s1 _ _ e
      · rw [upd_same, evenN_succ, List.map_append]
        rfl
    · rintro σ H' ⟨v, rfl, s1, e1⟩
      exact ⟨_, rfl, q H' r s1 nr e1⟩
theorem ok_check {f : Addr} {fd : FuncData} (F : Fun K "check_share" "check_share" sCheck f fd) (mB : ∃ u, mg "MOST_BEATS" = some u ∧ RelV (.int 64) u) : FnOk P w K mg base CX0 1 f fd ["beats", "pulses"] spCheck := by
  obtain ⟨uB, mB, rB⟩ := mB
  refine F.ok scCheck (fun vs H Q E h => ?_) (fun cdv A outer s H vs Q E hr h => ?_)
  · obtain ⟨b, k, rfl, _⟩ := h
    rfl
  · obtain ⟨b, k, rfl, ⟨g1, g2, g3, g4⟩, q⟩ := h
    refine ⟨_, pss_cons (ps_if (pt_not (pt_chain op_le op_le pe_int (pv 0) (pe_glob rfl mB rB))) (pss_one ps_never) pss_nil)
      (pss_one (ps_if (pt_not (pt_chain op_le op_le pe_int (pv 1) (pv 0))) (pss_one ps_never) pss_nil)), ?_⟩
    refine ⟨_, rfl, _, _, rfl, rfl, _, rfl, ?_⟩
    rw [decide_eq_true g1]
    refine iteT ⟨_, _, rfl, rfl, _, rfl, ?_⟩
    rw [decide_eq_true g2]
    refine iteF ?_
    refine ⟨_, rfl, _, _, rfl, rfl, _, rfl, ?_⟩
    rw [decide_eq_true g3]
    refine iteT ⟨_, rfl, _, _, rfl, rfl, _, rfl, ?_⟩
    rw [decide_eq_true g4]
    exact iteF q
theorem ok_ahead {f : Addr} {fd : FuncData} (F : Fun K "pulses_ahead" "pulses_ahead" sAhead f fd) : FnOk P w K mg base CX0 1 f fd ["at", "beats", "pulses"] spAhead := by
  refine F.ok scAhead (fun vs H Q E h => ?_) (fun cdv A outer s H vs Q E hr h => ?_)
  · obtain ⟨n, b, k, rfl, _⟩ := h
    rfl
  · obtain ⟨n, b, k, rfl, ⟨g1, g2, g3, g4⟩, q⟩ := h
    refine ⟨_, pss_one (ps_ret (pe_op op_fdiv (pe_op op_mul (pv 0) (pv 2)) (pv 1))), ?_⟩
    exact ⟨_, rfl, _, rfl, _, _, rfl, rfl, .inr ⟨by omega, by omega⟩, _, rfl, _, _, rfl, rfl, ⟨by omega, by omega⟩, q⟩
theorem ok_even {f fC fA : Addr} {fd fdC fdA : FuncData} (F : Fun K "even" "even" sEven f fd) (FC : Fun K "check_share" "check_share" sCheck fC fdC) (bC : Binds K fdC ["beats", "pulses"] []) (gC : mg "check_share" = some (.ref fC)) (mB : ∃ u, mg "MOST_BEATS" = some u ∧ RelV (.int 64) u)
    (FA : Fun K "pulses_ahead" "pulses_ahead" sAhead fA fdA) (bA : Binds K fdA ["at", "beats", "pulses"] []) (gA : mg "pulses_ahead" = some (.ref fA)) (mr : mg "range" = none) : FnOk P w K mg base CX0 2 f fd ["beats", "pulses", "turn"] spMake := by
  have GC : FnOk P w K mg base CX0 1 fC fdC ["beats", "pulses"] spCheck := ok_check FC mB
  have GA : FnOk P w K mg base CX0 1 fA fdA ["at", "beats", "pulses"] spAhead := ok_ahead FA
  refine F.ok scEven (fun vs H Q E h => ?_) (fun cdv A outer s H vs Q E hr h => ?_)
  · obtain ⟨b, k, t, rfl, _⟩ := h
    rfl
  · obtain ⟨b, k, t, rfl, G, ht, q⟩ := h
    obtain ⟨g1, g2, g3, g4⟩ := id G
    refine ⟨_, pss_cons (ps_expr (pe_call GC hr (by rfl) gC FC.kp bC .nil pass0 (pa_cons (pv 0) (pa_cons (pv 1) pa_nil))))
      (pss_cons (ps_set (i := 3) scEven.nd rfl (.inl rfl) (pe_lst pa_nil))
      (pss_cons (ps_for PassesOwn.never rfl (pi_range1 rfl mr (pa_cons (pv 0) pa_nil)) (pg_name (i := 4) scEven.nd rfl (.inl rfl))
        (pss_cons (ps_set (i := 5) scEven.nd rfl (.inl rfl) (pe_call GA hr (by rfl) gA FA.kp bA .nil pass0 (pa_cons (pe_op op_add (pv 4) (pv 2)) (pa_cons (pv 0) (pa_cons (pv 1) pa_nil)))))
        (pss_cons (ps_set (i := 6) scEven.nd rfl (.inl rfl) (pe_call GA hr (by rfl) gA FA.kp bA .nil pass0 (pa_cons (pe_op op_add (pe_op op_add (pv 4) pe_int) (pv 2)) (pa_cons (pv 0) (pa_cons (pv 1) pa_nil)))))
        (pss_one (ps_expr (pe_bm PySem.F.plainAttrs_list PySem.F.slot_list_append PySem.F.type_list_append mt_append (pv 3) (pa_cons (pe_ifExp (pt_cmpR op_gt (pv 6) (pv 5) (nomark _)) pe_int pe_int) pa_nil)))))))
      (pss_one (ps_ret (pv 3))))), ?_⟩
    have h0 : (0 : Int) < b := by omega
    refine ⟨_, rfl, _, rfl, b, k, rfl, G, (by show 0 ≤ sizeLine; decide), fun r nr => ?_⟩
    have s0 : Same H (upd H r (.lst [])) := same_upd nr
    refine ⟨_, rfl, b, rfl, by omega, by omega, for_range (lo := 0) (n := b.toNat) (fun i σ H' => ∃ v4 v5 v6 : Option V, σ = [some (.int b), some (.int k), some (.int t), some (.ref r), v4, v5, v6] ∧ Same H H' ∧ H' r = some (.lst ((evenN b k t i).map V.int)))
      ⟨none, none, none, rfl, s0, upd_same⟩ ?_ ?_⟩
    · rintro i σ H' hi ⟨v4, v5, v6, rfl, s1, e1⟩
      refine ⟨_, rfl, _, rfl, _, _, rfl, rfl, _, rfl, _, rfl, _, b, k, rfl, G, ?_⟩
      refine ⟨_, rfl, _, _, rfl, rfl, _, rfl, _, _, rfl, rfl, _, rfl, _, rfl, _, b, k, rfl, G, ?_⟩
      have e3 : (0 + (i : Int) + t) = t + (i : Int) := by omega
      have e4 : (0 + (i : Int) + 1 + t) = t + (i : Int) + 1 := by omega
      rw [e3, e4]
      have eb : bitE b k (t + (i : Int)) = (t + (i : Int) + 1) * k / b - (t + (i : Int)) * k / b := rfl
      have done : ∀ z : Int, z = bitE b k (t + (i : Int)) → ∃ v4 v5 v6 : Option V, [some (V.int b), some (.int k), some (.int t), some (.ref r), some (.int (0 + (i : Int))), some (.int ((t + (i : Int)) * k / b)), some (.int ((t + (i : Int) + 1) * k / b))] = [some (.int b), some (.int k), some (.int t), some (.ref r), v4, v5, v6] ∧ Same H (upd H' r (.lst ((evenN b k t i).map V.int ++ [.int z]))) ∧ upd H' r (.lst ((evenN b k t i).map V.int ++ [.int z])) r = some (.lst ((evenN b k t (i + 1)).map V.int)) := fun z hz => by
        refine ⟨_, _, _, rfl, fun c o e => ?_, ?_⟩
        · rw [upd_ne (ne_of_none e nr)]
          exact s1 _ _ e
        · rw [upd_same, evenN_succ, List.map_append, hz]
          rfl
      have hlen : ((evenN b k t i).map V.int).length < sizeLine := by
        rw [List.length_map, evenN_len]
        exact small1000 (by omega)
      refine ⟨_, rfl, .inl ⟨rfl, _, SqL.of e1⟩, _, rfl, _, rfl, _, _, rfl, rfl, _, rfl, ite2 (fun e => ?_) (fun e => ?_)⟩
      · have e5 := of_decide_eq_true e
        refine ⟨r, _, _, rfl, rfl, e1, hlen, done 1 ?_⟩
        rcases bit_01 h0 g3 g4 (t + (i : Int)) with c | c <;> omega
      · have e5 : ¬ _ < _ := fun z => e (decide_eq_true z)
        refine ⟨r, _, _, rfl, rfl, e1, hlen, done 0 ?_⟩
        rcases bit_01 h0 g3 g4 (t + (i : Int)) with c | c <;> omega
    · rintro σ H' ⟨v4, v5, v6, rfl, s1, e1⟩
      exact ⟨_, rfl, q H' r s1 nr e1⟩
theorem flat_body {f : Addr} {fd : FuncData} (F : Fun K "_law_same" "_law_same" sSame f fd) (mI : mg "isinstance" = none) (mT : mg "tuple" = none) (mL : mg "list" = none) (mS : mg "str" = none) (mB : mg "bool" = none) (mi : mg "int" = none)
    (cdv : Value) (A : Around) (outer : List Env) (s : Shared) (H : Hp) (vs : List V) (Q : VK) (E : XK) (h : spFlat vs H Q E) :
    ∃ t, PSs (cxOf CX0 P w K mg base ["_law_found", "_law_due", "_law_k"] "_law_same" (defScope sSame) f cdv A outer s H E).nox (defBody sSame) t ∧ t { nx := fun _ H' => Q .non H', rt := Q } (start ["_law_found", "_law_due", "_law_k"] vs) H := by
  obtain ⟨x, rfl, hx, q⟩ := h
  refine ⟨_, pss_cons (ps_if (pt_val (pe_callB call_isiT (by rfl) mI boot_isinstance (pa_cons (pv 1) (pa_cons (pe_tup (pa_cons (pe_bltn (v := .ty "tuple") (by rfl) mT PyProof.Rows.boot_tuple rfl) (pa_cons (pe_bltn (v := .ty "list") (by rfl) mL PyProof.Rows.boot_list rfl) pa_nil))) pa_nil)))) pss_never pss_nil)
    (pss_cons (ps_if (pt_cmpR op_isN (pv 1) pe_non (nomark _)) (pss_one (ps_ret (pe_cmpR op_isN (pv 0) pe_non (nomark _)))) pss_nil)
    (pss_cons (ps_if (pt_val (pe_callB call_isi (by rfl) mI boot_isinstance (pa_cons (pv 1) (pa_cons (pe_bltn (v := .ty "str") (by rfl) mS (by decide +kernel) rfl) pa_nil))))
      (pss_one (ps_ret (pe_and (pe_callB call_isi (by rfl) mI boot_isinstance (pa_cons (pv 0) (pa_cons (pe_bltn (v := .ty "str") (by rfl) mS (by decide +kernel) rfl) pa_nil))) (pe_one (pe_cmpR op_eq (pv 0) (pv 1) (nomark _)))))) pss_nil)
    (pss_cons (ps_if (PW.pt (pw_or (pt_val (pe_callB call_isi (by rfl) mI boot_isinstance (pa_cons (pv 1) (pa_cons (pe_bltn (v := .ty "bool") (by rfl) mB (by decide +kernel) rfl) pa_nil)))) (pw_or1 (pt_val (pe_callB call_isi (by rfl) mI boot_isinstance (pa_cons (pv 0) (pa_cons (pe_bltn (v := .ty "bool") (by rfl) mB (by decide +kernel) rfl) pa_nil)))))))
      (pss_one (ps_ret (pe_and (pe_callB call_isi (by rfl) mI boot_isinstance (pa_cons (pv 1) (pa_cons (pe_bltn (v := .ty "bool") (by rfl) mB (by decide +kernel) rfl) pa_nil))) (pe_and (pe_callB call_isi (by rfl) mI boot_isinstance (pa_cons (pv 0) (pa_cons (pe_bltn (v := .ty "bool") (by rfl) mB (by decide +kernel) rfl) pa_nil))) (pe_one (pe_cmpR op_eq (pv 0) (pv 1) (nomark _))))))) pss_nil)
    (pss_one (ps_ret (pe_and (pe_callB call_isi (by rfl) mI boot_isinstance (pa_cons (pv 0) (pa_cons (pe_bltn (v := .ty "int") (by rfl) mi (by decide +kernel) rfl) pa_nil))) (pe_one (pe_cmpR op_eq (pv 0) (pv 1) (nomark _))))))))), ?_⟩
  refine ⟨_, rfl, (by show 2 ≤ sizeLine; decide), fun t nt => ?_⟩
  have s0 : Same H (upd H t (.tup [.ty "tuple", .ty "list"])) := same_upd nt
  have fin := q _ s0
  have two : Paired ClsV [.ty "tuple", .ty "list"] [.type "tuple", .type "list"] := .cons (.ty _) (.cons (.ty _) .nil)
  have no2 : ∀ a : String, kitB a "tuple" = some false → kitB a "list" = some false → PySem.W.kitAny K (.type a) [.type "tuple", .type "list"] = some false := fun a h1 h2 => kitAny_cons (kit_ty h1) (fun _ => kitAny_cons (kit_ty h2) (fun _ => kitAny_nil) (fun z => nomatch z)) (fun z => nomatch z)
  cases hx with
  | int i =>
    refine ⟨_, t, _, _, _, _, rfl, upd_same, two, .base (.int i), no2 "int" (by decide +kernel) (by decide +kernel), false, rfl, iteF ?_⟩
    refine ⟨_, rfl, rfl, _, rfl, iteF ?_⟩
    refine ⟨_, rfl, _, _, _, _, _, rfl, .ty _, .base (.int i), kit_ty (r := false) (by decide +kernel), _, rfl, iteF ?_⟩
    refine ⟨_, rfl, _, _, _, _, _, rfl, .ty _, .base (.int i), kit_ty (r := false) (by decide +kernel), _, rfl, iteF ?_⟩
    refine ⟨_, rfl, _, _, _, _, _, rfl, .ty _, .base (.int i), kit_ty (r := false) (by decide +kernel), _, rfl, iteF ?_⟩
    refine ⟨_, rfl, _, _, _, _, _, rfl, .ty _, .base (.int i), kit_ty (r := true) (by decide +kernel), _, rfl, iteT ?_⟩
    refine ⟨_, rfl, _, rfl, rfl, ?_⟩
    rw [decide_eq_true rfl]
    exact fin
  | bl c =>
    refine ⟨_, t, _, _, _, _, rfl, upd_same, two, .base (.bl c), no2 "bool" (by decide +kernel) (by decide +kernel), false, rfl, iteF ?_⟩
    refine ⟨_, rfl, rfl, _, rfl, iteF ?_⟩
    refine ⟨_, rfl, _, _, _, _, _, rfl, .ty _, .base (.bl c), kit_ty (r := false) (by decide +kernel), _, rfl, iteF ?_⟩
    refine ⟨_, rfl, _, _, _, _, _, rfl, .ty _, .base (.bl c), kit_ty (r := true) (by decide +kernel), _, rfl, iteT (iteT ?_)⟩
    refine ⟨_, rfl, _, _, _, _, _, rfl, .ty _, .base (.bl c), kit_ty (r := true) (by decide +kernel), _, rfl, iteT ?_⟩
    refine ⟨_, rfl, _, _, _, _, _, rfl, .ty _, .base (.bl c), kit_ty (r := true) (by decide +kernel), _, rfl, iteT ?_⟩
    refine ⟨_, rfl, _, rfl, rfl, ?_⟩
    rw [decide_eq_true rfl]
    exact fin
  | non =>
    refine ⟨_, t, _, _, _, _, rfl, upd_same, two, .base .non, no2 "NoneType" (by decide +kernel) (by decide +kernel), false, rfl, iteF ?_⟩
    refine ⟨_, rfl, rfl, _, rfl, iteT ?_⟩
    exact ⟨_, rfl, rfl, fin⟩
  | str z =>
    refine ⟨_, t, _, _, _, _, rfl, upd_same, two, .base (.str z), no2 "str" (by decide +kernel) (by decide +kernel), false, rfl, iteF ?_⟩
    refine ⟨_, rfl, rfl, _, rfl, iteF ?_⟩
    refine ⟨_, rfl, _, _, _, _, _, rfl, .ty _, .base (.str z), kit_ty (r := true) (by decide +kernel), _, rfl, iteT ?_⟩
    refine ⟨_, rfl, _, _, _, _, _, rfl, .ty _, .base (.str z), kit_ty (r := true) (by decide +kernel), _, rfl, iteT ?_⟩
    refine ⟨_, rfl, _, rfl, rfl, ?_⟩
    rw [decide_eq_true rfl]
    exact fin
theorem ok_flat {f : Addr} {fd : FuncData} (F : Fun K "_law_same" "_law_same" sSame f fd) (mI : mg "isinstance" = none) (mT : mg "tuple" = none) (mL : mg "list" = none) (mS : mg "str" = none) (mB : mg "bool" = none) (mi : mg "int" = none) :
    FnOk P w K mg base CX0 1 f fd ["_law_found", "_law_due"] spFlat := by
  refine F.ok scSame (fun vs H Q E h => ?_) (fun cdv A outer s H vs Q E hr h => flat_body F mI mT mL mS mB mi cdv A outer s H vs Q E h)
  obtain ⟨x, rfl, _⟩ := h
  rfl
theorem ok_same {f : Addr} {fd : FuncData} (F : Fun K "_law_same" "_law_same" sSame f fd) (bS : Binds K fd ["_law_found", "_law_due"] []) (gS : mg "_law_same" = some (.ref f)) (mI : mg "isinstance" = none) (mT : mg "tuple" = none) (mL : mg "list" = none) (mS : mg "str" = none) (mB : mg "bool" = none) (mi : mg "int" = none) (ml : mg "len" = none) (mr : mg "range" = none) :
    FnOk P w K mg base CX0 2 f fd ["_law_found", "_law_due"] (spSame K) := by
  have GF : FnOk P w K mg base CX0 1 f fd ["_law_found", "_law_due"] spFlat := ok_flat F mI mT mL mS mB mi
  have two : Paired ClsV [.ty "tuple", .ty "list"] [.type "tuple", .type "list"] := .cons (.ty _) (.cons (.ty _) .nil)
  have kL : PySem.W.kitAny K (.type "list") [.type "tuple", .type "list"] = some true := kitAny_cons (kit_ty (r := false) (by decide +kernel)) (fun _ => kitAny_cons (kit_ty (r := true) (by decide +kernel)) (fun z => nomatch z) (fun _ => rfl)) (fun z => nomatch z)
  have kT : PySem.W.kitAny K (.type "tuple") [.type "tuple", .type "list"] = some true := kitAny_cons (kit_ty (r := true) (by decide +kernel)) (fun z => nomatch z) (fun _ => rfl)
  have no2 : ∀ a : String, kitB a "tuple" = some false → kitB a "list" = some false → PySem.W.kitAny K (.type a) [.type "tuple", .type "list"] = some false := fun a h1 h2 => kitAny_cons (kit_ty h1) (fun _ => kitAny_cons (kit_ty h2) (fun _ => kitAny_nil) (fun z => nomatch z)) (fun z => nomatch z)
  refine F.ok scSame (fun vs H Q E h => ?_) (fun cdv A outer s H vs Q E hr h => ?_)
  · obtain ⟨x, y, rfl, _⟩ := h
    rfl
  · obtain ⟨x, y, rfl, hx, q⟩ := h
    by_cases hf : x = y ∧ Flat x
    · obtain ⟨rfl, hf⟩ := hf
      obtain ⟨t, ht, hq⟩ := flat_body (P := P) (w := w) (base := base) F mI mT mL mS mB mi cdv A outer s H [x, x] Q E ⟨x, rfl, hf, q⟩
      exact ⟨t, ht, hq⟩
    · refine ⟨_, pss_cons (ps_if (pt_val (pe_callB call_isiT (by rfl) mI boot_isinstance (pa_cons (pv 1) (pa_cons (pe_tup (pa_cons (pe_bltn (v := .ty "tuple") (by rfl) mT PyProof.Rows.boot_tuple rfl) (pa_cons (pe_bltn (v := .ty "list") (by rfl) mL PyProof.Rows.boot_list rfl) pa_nil))) pa_nil))))
        (pss_cons (ps_if (PW.pt (pw_or (pt_not (pt_val (pe_callB call_isiT (by rfl) mI boot_isinstance (pa_cons (pv 0) (pa_cons (pe_tup (pa_cons (pe_bltn (v := .ty "tuple") (by rfl) mT PyProof.Rows.boot_tuple rfl) (pa_cons (pe_bltn (v := .ty "list") (by rfl) mL PyProof.Rows.boot_list rfl) pa_nil))) pa_nil)))))
            (pw_or1 (pt_cmpR op_ne (pe_callB call_isi (by rfl) mI boot_isinstance (pa_cons (pv 0) (pa_cons (pe_bltn (v := .ty "list") (by rfl) mL PyProof.Rows.boot_list rfl) pa_nil))) (pe_callB call_isi (by rfl) mI boot_isinstance (pa_cons (pv 1) (pa_cons (pe_bltn (v := .ty "list") (by rfl) mL PyProof.Rows.boot_list rfl) pa_nil))) (nomark _)))))
          (pss_one (ps_ret pe_bl)) pss_nil)
        (pss_cons (ps_if (pt_cmpR op_ne (pe_callB call_len_seq (by rfl) ml PySem.boot_len (pa_cons (pv 0) pa_nil)) (pe_callB call_len_seq (by rfl) ml PySem.boot_len (pa_cons (pv 1) pa_nil)) (nomark _)) (pss_one (ps_ret pe_bl)) pss_nil)
        (pss_one (ps_ret (pe_cmpR (op_eqD hr.units) (pe_lc (own := [("_law_k", 2)]) (g := gName 2) rfl scSame.nd (pi_range1 rfl mr (pa_cons (pe_callB call_len_seq (by rfl) ml PySem.boot_len (pa_cons (pv 1) pa_nil)) pa_nil)) (blkOk_by (own := [("_law_k", 2)]) (N := ["_law_found", "_law_due", "_law_k"]) (sc := defScope sSame) (by decide +kernel))
            (fun _ _ _ _ _ => pg_name (i := 2) scSame.nd rfl (Or.inl rfl)) (fun _ _ _ _ _ => pts_one (pt_not (pt_val (pe_call GF hr (by rfl) gS F.kp bS .nil pass0 (pa_cons (pe_ix (r := rIx K) ix_seq (pv 0) (pv 2) (fun _ _ => rfl)) (pa_cons (pe_ix (r := rIx K) ix_seq (pv 1) (pv 2) (fun _ _ => rfl)) pa_nil)))))) (fun _ _ _ _ _ => pv 2)) (pe_lst pa_nil) (nomark _)))))) pss_nil)
        pss_never, ?_⟩
      refine ⟨_, rfl, (by show 2 ≤ sizeLine; decide), fun t nt => ?_⟩
      have s0 : Same H (upd H t (.tup [.ty "tuple", .ty "list"])) := same_upd nt
      have t0 : (upd H t (.tup [.ty "tuple", .ty "list"])) t = some (.tup [.ty "tuple", .ty "list"]) := upd_same
      generalize upd H t (.tup [.ty "tuple", .ty "list"]) = H1 at s0 t0
      cases hx with
      | flat h => exact absurd ⟨rfl, h⟩ hf
      | @lst p1 p2 xs hp hq hfl hl =>
        have hp1 := s0 _ _ hp
        have hq1 := s0 _ _ hq
        refine ⟨_, t, _, _, _, _, rfl, t0, two, .base (.lst hq1), kL, true, rfl, iteT ?_⟩
        refine ⟨_, rfl, (by show 2 ≤ sizeLine; decide), fun t2 nt2 => ?_⟩
        have s2 : Same H1 (upd H1 t2 (.tup [.ty "tuple", .ty "list"])) := same_upd nt2
        have t20 : (upd H1 t2 (.tup [.ty "tuple", .ty "list"])) t2 = some (.tup [.ty "tuple", .ty "list"]) := upd_same
        generalize upd H1 t2 (.tup [.ty "tuple", .ty "list"]) = H2 at s2 t20
        have hp2 := s2 _ _ hp1
        have hq2 := s2 _ _ hq1
        refine ⟨_, t2, _, _, _, _, rfl, t20, two, .base (.lst hp2), kL, true, rfl, iteF ?_⟩
        refine ⟨_, rfl, _, _, _, _, _, rfl, .ty _, .base (.lst hp2), kit_ty (r := true) (by decide +kernel), _, rfl, _, _, _, _, _, rfl, .ty _, .base (.lst hq2), kit_ty (r := true) (by decide +kernel), rfl, _, rfl, iteNS rfl ?_⟩
        refine ⟨_, rfl, p1, _, rfl, .inl (SqL.of hp2), _, rfl, p2, _, rfl, .inl (SqL.of hq2), rfl, _, rfl, iteNS rfl ?_⟩
        refine ⟨_, rfl, p2, _, rfl, .inl (SqL.of hq2), (xs.length : Int), rfl, by omega, by omega, fun D nD => ?_⟩
        refine lc_range (lo := 0) (n := xs.length) (fun i H' => Same H2 H' ∧ H' D = some (.lst [])) ⟨same_upd nD, upd_same⟩ ?_ ?_
        · rintro i H' hi ⟨s3, d3⟩
          have g : xs[i]? = some xs[i] := List.getElem?_eq_getElem hi
          have hz : (0 + (i : Int)) = ((i : Nat) : Int) := by omega
          rw [hz]
          refine ⟨rfl, _, rfl, _, rfl, .inl ⟨p1, _, _, _, rfl, rfl, SqL.of (s3 _ _ hp2), atI_nat g, ?_⟩⟩
          refine ⟨_, rfl, _, rfl, .inl ⟨p2, _, _, _, rfl, rfl, SqL.of (s3 _ _ hq2), atI_nat g, ?_⟩⟩
          refine ⟨xs[i], rfl, hfl _ (List.getElem_mem hi), fun H4 s4 => ⟨_, rfl, iteF ⟨s3.trans s4, s4 _ _ d3⟩⟩⟩
        · rintro H' ⟨s3, d3⟩
          refine ⟨(by show 0 ≤ sizeLine; decide), fun D2 nD2 => ?_⟩
          refine ⟨.list [], .list [], .lst (SqL.of (same_upd nD2 _ _ d3)) .nil, .lst (SqL.of upd_same) .nil, by decide, by decide, ?_⟩
          exact q _ (s0.trans (s2.trans (s3.trans (same_upd nD2))))
      | @tup p1 p2 xs hp hq hfl hl =>
        have hp1 := s0 _ _ hp
        have hq1 := s0 _ _ hq
        refine ⟨_, t, _, _, _, _, rfl, t0, two, .base (.tup hq1), kT, true, rfl, iteT ?_⟩
        refine ⟨_, rfl, (by show 2 ≤ sizeLine; decide), fun t2 nt2 => ?_⟩
        have s2 : Same H1 (upd H1 t2 (.tup [.ty "tuple", .ty "list"])) := same_upd nt2
        have t20 : (upd H1 t2 (.tup [.ty "tuple", .ty "list"])) t2 = some (.tup [.ty "tuple", .ty "list"]) := upd_same
        generalize upd H1 t2 (.tup [.ty "tuple", .ty "list"]) = H2 at s2 t20
        have hp2 := s2 _ _ hp1
        have hq2 := s2 _ _ hq1
        refine ⟨_, t2, _, _, _, _, rfl, t20, two, .base (.tup hp2), kT, true, rfl, iteF ?_⟩
        refine ⟨_, rfl, _, _, _, _, _, rfl, .ty _, .base (.tup hp2), kit_ty (r := false) (by decide +kernel), _, rfl, _, _, _, _, _, rfl, .ty _, .base (.tup hq2), kit_ty (r := false) (by decide +kernel), rfl, _, rfl, iteNS rfl ?_⟩
        refine ⟨_, rfl, p1, _, rfl, .inr (SqT.of hp2), _, rfl, p2, _, rfl, .inr (SqT.of hq2), rfl, _, rfl, iteNS rfl ?_⟩
        refine ⟨_, rfl, p2, _, rfl, .inr (SqT.of hq2), (xs.length : Int), rfl, by omega, by omega, fun D nD => ?_⟩
        refine lc_range (lo := 0) (n := xs.length) (fun i H' => Same H2 H' ∧ H' D = some (.lst [])) ⟨same_upd nD, upd_same⟩ ?_ ?_
        · rintro i H' hi ⟨s3, d3⟩
          have g : xs[i]? = some xs[i] := List.getElem?_eq_getElem hi
          have hz : (0 + (i : Int)) = ((i : Nat) : Int) := by omega
          rw [hz]
          refine ⟨rfl, _, rfl, _, rfl, .inr (.inl ⟨p1, _, _, _, rfl, rfl, SqT.of (s3 _ _ hp2), atI_nat g, ?_⟩)⟩
          refine ⟨_, rfl, _, rfl, .inr (.inl ⟨p2, _, _, _, rfl, rfl, SqT.of (s3 _ _ hq2), atI_nat g, ?_⟩)⟩
          refine ⟨xs[i], rfl, hfl _ (List.getElem_mem hi), fun H4 s4 => ⟨_, rfl, iteF ⟨s3.trans s4, s4 _ _ d3⟩⟩⟩
        · rintro H' ⟨s3, d3⟩
          refine ⟨(by show 0 ≤ sizeLine; decide), fun D2 nD2 => ?_⟩
          refine ⟨.list [], .list [], .lst (SqL.of (same_upd nD2 _ _ d3)) .nil, .lst (SqL.of upd_same) .nil, by decide, by decide, ?_⟩
          exact q _ (s0.trans (s2.trans (s3.trans (same_upd nD2))))
theorem ok_law {f fSt fD fS fSh fLE fE fC fA : Addr} {fd fdSt fdD fdS fdSh fdLE fdE fdC fdA : FuncData} (F : Fun K "law" "law" sLaw f fd)
    (FSt : Fun K "_law_start" "_law_start" sStart fSt fdSt) (bSt : Binds K fdSt ["_law_script"] []) (gSt : mg "_law_start" = some (.ref fSt))
    (FD : Fun K "_law_drawn" "_law_drawn" sDrawn fD fdD) (bD : Binds K fdD ["_law_state", "_law_many"] []) (gD : mg "_law_drawn" = some (.ref fD))
    (FS : Fun K "_law_same" "_law_same" sSame fS fdS) (bS : Binds K fdS ["_law_found", "_law_due"] []) (gS : mg "_law_same" = some (.ref fS))
    (FSh : Fun K "_law_share" "_law_share" sShare fSh fdSh) (bSh : Binds K fdSh ["_law_state"] []) (gSh : mg "_law_share" = some (.ref fSh))
    (FLE : Fun K "_law_even" "_law_even" sLEven fLE fdLE) (bLE : Binds K fdLE ["_law_beats", "_law_pulses", "_law_turn"] []) (gLE : mg "_law_even" = some (.ref fLE))
    (FE : Fun K "even" "even" sEven fE fdE) (bE : Binds K fdE ["beats", "pulses", "turn"] []) (gE : mg "even" = some (.ref fE))
    (FC : Fun K "check_share" "check_share" sCheck fC fdC) (bC : Binds K fdC ["beats", "pulses"] []) (gC : mg "check_share" = some (.ref fC)) (mB : ∃ u, mg "MOST_BEATS" = some u ∧ RelV (.int 64) u)
    (FA : Fun K "pulses_ahead" "pulses_ahead" sAhead fA fdA) (bA : Binds K fdA ["at", "beats", "pulses"] []) (gA : mg "pulses_ahead" = some (.ref fA))
    (mI : mg "isinstance" = none) (mT : mg "tuple" = none) (mL : mg "list" = none) (mS : mg "str" = none) (mBo : mg "bool" = none) (mi : mg "int" = none) (ml : mg "len" = none) (mr : mg "range" = none) (ms : mg "sum" = none) :
    FnOk P w K mg base CX0 3 f fd ["_law_script"] (spLaw K) := by
  have GSt : FnOk P w K mg base CX0 1 fSt fdSt ["_law_script"] (spStart K) := ok_start FSt
  have GD : FnOk P w K mg base CX0 1 fD fdD ["_law_state", "_law_many"] (spDrawn K) := ok_drawn FD ml
  have GS : FnOk P w K mg base CX0 2 fS fdS ["_law_found", "_law_due"] (spSame K) := ok_same FS bS gS mI mT mL mS mBo mi ml mr
  have GSh : FnOk P w K mg base CX0 2 fSh fdSh ["_law_state"] (spShare K) := ok_share FSh FD bD gD ml
  have GLE : FnOk P w K mg base CX0 1 fLE fdLE ["_law_beats", "_law_pulses", "_law_turn"] spMake := ok_leven FLE mr mi
  have GE : FnOk P w K mg base CX0 2 fE fdE ["beats", "pulses", "turn"] spMake := ok_even FE FC bC gC mB FA bA gA mr
  refine F.ok scLaw (fun vs H Q E h => ?_) (fun cdv A outer s H vs Q E hr h => ?_)
  · obtain ⟨a, ns, rfl, _⟩ := h
    rfl
  · obtain ⟨a, ns, rfl, hS, q⟩ := h
    have hr1 := hr.mono (show 1 ≤ 2 by decide)
    refine ⟨_, pss_cons (ps_set (i := 1) scLaw.nd rfl (.inl rfl) (pe_call GSt hr1 (by rfl) gSt FSt.kp bSt .nil pass0 (pa_cons (pv 0) pa_nil)))
      (pss_cons (ps_for PassesOwn.never rfl (pi_range1 rfl mr (pa_cons pe_int pa_nil)) (pg_name (i := 2) scLaw.nd rfl (.inl rfl))
        (pss_cons (ps_asg (pe_call GSh hr (by rfl) gSh FSh.kp bSh .nil pass0 (pa_cons (pv 1) pa_nil)) (pg_tup rfl (pgs_cons (pg_name (i := 3) scLaw.nd rfl (.inl rfl)) (pgs_cons (pg_name (i := 4) scLaw.nd rfl (.inl rfl)) pgs_nil))))
        (pss_cons (ps_set (i := 5) scLaw.nd rfl (.inl rfl) (pe_ix ix_list (pe_lst (pa_cons (pv 3) (pa_cons pe_int (pa_cons (pe_op op_pow pe_int pe_int) pa_nil)))) (pe_call GD hr1 (by rfl) gD FD.kp bD .nil pass0 (pa_cons (pv 1) (pa_cons pe_int pa_nil))) (fun _ _ => rfl)))
        (pss_cons (ps_set (i := 6) scLaw.nd rfl (.inl rfl) (pe_op op_sub (pe_call GD hr1 (by rfl) gD FD.kp bD .nil pass0 (pa_cons (pv 1) (pa_cons (pv 5) pa_nil))) (pe_op op_mul (pe_call GD hr1 (by rfl) gD FD.kp bD .nil pass0 (pa_cons (pv 1) (pa_cons pe_int pa_nil))) (pv 5))))
        (pss_cons (ps_set (i := 7) scLaw.nd rfl (.inl rfl) (pe_call GLE hr1 (by rfl) gLE FLE.kp bLE .nil pass0 (pa_cons (pv 3) (pa_cons (pv 4) (pa_cons (pv 6) pa_nil)))))
        (pss_one (ps_for PassesOwn.never rfl (pi_range1 rfl mr (pa_cons pe_int pa_nil)) (pg_name (i := 8) scLaw.nd rfl (.inl rfl))
          (pss_cons (ps_set (i := 9) scLaw.nd rfl (.inl rfl) (pe_call GE hr (by rfl) gE FE.kp bE .nil pass0 (pa_cons (pv 3) (pa_cons (pv 4) (pa_cons (pv 6) pa_nil)))))
          (pss_cons (ps_if (PW.pt (pw_or (pt_not (pt_val (pe_call GS hr (by rfl) gS FS.kp bS .nil pass0 (pa_cons (pv 9) (pa_cons (pv 7) pa_nil))))) (pw_or1 (pt_cmpR op_ne (pe_callB (cr_sum rfl) (by rfl) ms (by decide +kernel) (pa_cons (pv 9) pa_nil)) (pv 4) (nomark _)))))
            (pss_one (ps_ret pe_bl)) pss_nil)
          (pss_one (ps_expr (pe_bm PySem.F.plainAttrs_list PySem.F.slot_list_append PySem.F.type_list_append mt_append (pv 9) (pa_cons pe_int pa_nil)))))))))))))
      (pss_one (ps_ret pe_bl))), ?_⟩
    refine ⟨_, rfl, a, ns, rfl, hS, fun H1 p s1 np S1 => ?_⟩
    refine ⟨12, rfl, by decide, by decide, for_range (lo := 0) (n := 12) (fun i σ H' => ∃ v2 v3 v4 v5 v6 v7 v8 v9 : Option V, σ = [some (.ref a), some (.ref p), v2, v3, v4, v5, v6, v7, v8, v9] ∧ StAt K p a ns H')
      ⟨none, none, none, none, none, none, none, none, rfl, S1⟩ ?_ ?_⟩
    · rintro i σ H2 hi ⟨v2, v3, v4, v5, v6, v7, v8, v9, rfl, S2⟩
      refine ⟨_, rfl, p, a, ns, rfl, S2, fun H3 t b k B3 S3 nt et G => ?_⟩
      refine ⟨t, [.int b, .int k], rfl, SqT.of et, rfl, .int b, [.int k], rfl, .int k, [], rfl, rfl, ?_⟩
      obtain ⟨g1, g2, g3, g4⟩ := id G
      -- far
      refine ⟨_, rfl, _, _, rfl, rfl, ⟨by decide, by decide, by decide⟩, (by show 3 ≤ sizeLine; decide), fun l nl => ?_⟩
      have t1 := S3.ne nl
      have s3 : Same H3 (upd H3 l (.lst [.int b, .int 1000, .int (10 ^ (29 : Int).toNat)])) := same_upd nl
      refine ⟨_, rfl, p, a, ns, 3, rfl, S3.same s3, by decide, by decide, fun H4 w4 B4 S4 w40 w41 => ?_⟩
      have e4 : H4 l = some (.lst [.int b, .int 1000, .int (10 ^ (29 : Int).toNat)]) := B4 _ _ upd_same t1.symm
      obtain ⟨x, g5, x0, x1⟩ : ∃ x : Int, atI [V.int b, V.int 1000, V.int (10 ^ (29 : Int).toNat)] w4 = some (.int x) ∧ 0 < x ∧ x ≤ 100000000000000000000000000000 := by
        have hv : w4 = 0 ∨ w4 = 1 ∨ w4 = 2 := by omega
        rcases hv with rfl | rfl | rfl
        · exact ⟨b, rfl, by omega, by omega⟩
        · exact ⟨1000, rfl, by decide, by decide⟩
        · exact ⟨_, rfl, by decide, by decide⟩
      refine ⟨l, _, _, _, rfl, rfl, SqL.of e4, g5, ?_⟩
      -- by
      refine ⟨_, rfl, _, rfl, p, a, ns, x, rfl, S4, x0, (by omega), fun H5 w5 B5 S5 w50 w51 => ?_⟩
      refine ⟨_, rfl, p, a, ns, 2, rfl, S5, by decide, by decide, fun H6 w6 B6 S6 w60 w61 => ?_⟩
      refine ⟨_, rfl, _, _, rfl, rfl, .inl ⟨by omega, by omega⟩, _, _, rfl, rfl, ?_⟩
      have hby : (w5 - w6 * x).natAbs < 2 ^ 200 := by
        have hw : w6 = 0 ∨ w6 = 1 := by omega
        rcases hw with rfl | rfl <;> omega
      refine ⟨_, rfl, _, rfl, _, rfl, b, k, w5 - w6 * x, rfl, G, hby, fun H7 r s7 nr er => ?_⟩
      have S7 := S6.same s7
      have rp : r ≠ p := (S6.ne nr).symm
      refine ⟨2, rfl, by decide, by decide, for_range (lo := 0) (n := 2) (fun i σ H' => ∃ x2 x5 x8 x9 : Option V, σ = [some (.ref a), some (.ref p), x2, some (.int b), some (.int k), x5, some (.int (w5 - w6 * x)), some (.ref r), x8, x9] ∧ StAt K p a ns H' ∧ H' r = some (.lst ((evenL b k (w5 - w6 * x)).map V.int)))
        ⟨_, _, _, _, rfl, S7, er⟩ ?_ ?_⟩
      · rintro j σ H8 hj ⟨x2, x5, x8, x9, rfl, S8, er8⟩
        refine ⟨_, rfl, _, rfl, _, rfl, b, k, w5 - w6 * x, rfl, G, hby, fun H9 z s9 nz ez => ?_⟩
        have hlen : ((evenL b k (w5 - w6 * x)).map V.int).length ≤ 1000000 := by
          rw [List.length_map, evenL_len]
          omega
        refine ⟨_, rfl, _, rfl, _, _, rfl, .lst ez (s9 _ _ er8) (flat_ints _) hlen, fun H10 s10 => ?_⟩
        have ez10 := s10 _ _ ez
        refine ⟨true, rfl, iteF ?_⟩
        refine ⟨_, rfl, z, _, rfl, SqL.of ez10, _, rfl, rfl, _, rfl, ?_⟩
        rw [evenL_sum (by omega : 0 < b)]
        refine iteNS rfl ?_
        refine ⟨_, rfl, .inl ⟨rfl, _, SqL.of ez10⟩, z, _, _, rfl, rfl, ez10, Nat.lt_of_le_of_lt hlen (by decide), ?_⟩
        have zp : z ≠ p := (S8.ne nz).symm
        have zr : r ≠ z := ne_of_none er8 nz
        refine ⟨_, _, _, _, rfl, ((S8.same s9).same s10).but But.upd zp ez10, ?_⟩
        rw [upd_ne zr]
        exact s10 _ _ (s9 _ _ er8)
      · rintro σ H8 ⟨x2, x5, x8, x9, rfl, S8, er8⟩
        exact ⟨_, _, _, _, _, _, _, _, rfl, S8⟩
    · rintro σ H2 ⟨v2, v3, v4, v5, v6, v7, v8, v9, rfl, S2⟩
      exact q _
end
theorem all_mk {l : PySem.W.OpenLaw} {w : World} {K : PySem.W.Frag} {h : Heap} {mg : Str → Option Value} {fa f1 f2 f3 f4 f5 f6 f7 f8 f9 : Addr} (X : K.In h) (G : h.Ns mainGlobals mg) (hfa : mg "law" = some (.ref fa))
    {od1 an1 od2 an2 od3 an3 od4 an4 od5 an5 od6 an6 od7 an7 od8 an8 od9 an9 : Option Addr} {sl1 sl2 sl3 sl4 sl5 sl6 sl7 sl8 sl9 : Array (Option Value)} {oc1 kV1 dc1 pm1 cd1 ct1 oc2 kV2 dc2 pm2 cd2 ct2 oc3 kV3 dc3 pm3 cd3 ct3 oc4 kV4 dc4 pm4 cd4 ct4 oc5 kV5 dc5 pm5 cd5 ct5 oc6 kV6 dc6 pm6 cd6 ct6 oc7 kV7 dc7 pm7 cd7 ct7 oc8 kV8 dc8 pm8 cd8 ct8 oc9 kV9 dc9 pm9 cd9 ct9 : Value}
    {tkMOST_BEATS : Tok}
    (a1 : PySem.W.nsIn K mainGlobals "check_share" = some (some (.ref f1))) (l1 : K.lookup f1 = some ⟨oc1, od1, .func (PySem.W.fnOf "check_share" "check_share" (defArgs sCheck) (defBody sCheck) (defScope sCheck) .none kV1 dc1 pm1 an1 cd1 ct1), sl1⟩) (c1 : PySem.W.codeIn K cd1 "check_share" = true) (k1 : PySem.W.keepIn K (.ref f1) = true)
    (a2 : PySem.W.nsIn K mainGlobals "pulses_ahead" = some (some (.ref f2))) (l2 : K.lookup f2 = some ⟨oc2, od2, .func (PySem.W.fnOf "pulses_ahead" "pulses_ahead" (defArgs sAhead) (defBody sAhead) (defScope sAhead) .none kV2 dc2 pm2 an2 cd2 ct2), sl2⟩) (c2 : PySem.W.codeIn K cd2 "pulses_ahead" = true) (k2 : PySem.W.keepIn K (.ref f2) = true)
    (a3 : PySem.W.nsIn K mainGlobals "even" = some (some (.ref f3))) (l3 : K.lookup f3 = some ⟨oc3, od3, .func (PySem.W.fnOf "even" "even" (defArgs sEven) (defBody sEven) (defScope sEven) .none kV3 dc3 pm3 an3 cd3 ct3), sl3⟩) (c3 : PySem.W.codeIn K cd3 "even" = true) (k3 : PySem.W.keepIn K (.ref f3) = true)
    (a4 : PySem.W.nsIn K mainGlobals "_law_start" = some (some (.ref f4))) (l4 : K.lookup f4 = some ⟨oc4, od4, .func (PySem.W.fnOf "_law_start" "_law_start" (defArgs sStart) (defBody sStart) (defScope sStart) .none kV4 dc4 pm4 an4 cd4 ct4), sl4⟩) (c4 : PySem.W.codeIn K cd4 "_law_start" = true) (k4 : PySem.W.keepIn K (.ref f4) = true)
    (a5 : PySem.W.nsIn K mainGlobals "_law_drawn" = some (some (.ref f5))) (l5 : K.lookup f5 = some ⟨oc5, od5, .func (PySem.W.fnOf "_law_drawn" "_law_drawn" (defArgs sDrawn) (defBody sDrawn) (defScope sDrawn) .none kV5 dc5 pm5 an5 cd5 ct5), sl5⟩) (c5 : PySem.W.codeIn K cd5 "_law_drawn" = true) (k5 : PySem.W.keepIn K (.ref f5) = true)
    (a6 : PySem.W.nsIn K mainGlobals "_law_same" = some (some (.ref f6))) (l6 : K.lookup f6 = some ⟨oc6, od6, .func (PySem.W.fnOf "_law_same" "_law_same" (defArgs sSame) (defBody sSame) (defScope sSame) .none kV6 dc6 pm6 an6 cd6 ct6), sl6⟩) (c6 : PySem.W.codeIn K cd6 "_law_same" = true) (k6 : PySem.W.keepIn K (.ref f6) = true)
    (a7 : PySem.W.nsIn K mainGlobals "_law_share" = some (some (.ref f7))) (l7 : K.lookup f7 = some ⟨oc7, od7, .func (PySem.W.fnOf "_law_share" "_law_share" (defArgs sShare) (defBody sShare) (defScope sShare) .none kV7 dc7 pm7 an7 cd7 ct7), sl7⟩) (c7 : PySem.W.codeIn K cd7 "_law_share" = true) (k7 : PySem.W.keepIn K (.ref f7) = true)
    (a8 : PySem.W.nsIn K mainGlobals "_law_even" = some (some (.ref f8))) (l8 : K.lookup f8 = some ⟨oc8, od8, .func (PySem.W.fnOf "_law_even" "_law_even" (defArgs sLEven) (defBody sLEven) (defScope sLEven) .none kV8 dc8 pm8 an8 cd8 ct8), sl8⟩) (c8 : PySem.W.codeIn K cd8 "_law_even" = true) (k8 : PySem.W.keepIn K (.ref f8) = true)
    (a9 : PySem.W.nsIn K mainGlobals "law" = some (some (.ref f9))) (l9 : K.lookup f9 = some ⟨oc9, od9, .func (PySem.W.fnOf "law" "law" (defArgs sLaw) (defBody sLaw) (defScope sLaw) .none kV9 dc9 pm9 an9 cd9 ct9), sl9⟩) (c9 : PySem.W.codeIn K cd9 "law" = true) (k9 : PySem.W.keepIn K (.ref f9) = true)
    (z_isinstance : PySem.W.nsIn K mainGlobals "isinstance" = some none)
    (z_tuple : PySem.W.nsIn K mainGlobals "tuple" = some none)
    (z_list : PySem.W.nsIn K mainGlobals "list" = some none)
    (z_str : PySem.W.nsIn K mainGlobals "str" = some none)
    (z_bool : PySem.W.nsIn K mainGlobals "bool" = some none)
    (z_int : PySem.W.nsIn K mainGlobals "int" = some none)
    (z_len : PySem.W.nsIn K mainGlobals "len" = some none)
    (z_range : PySem.W.nsIn K mainGlobals "range" = some none)
    (z_sum : PySem.W.nsIn K mainGlobals "sum" = some none)
    (nMOST_BEATS : PySem.W.nsIn K mainGlobals "MOST_BEATS" = some (some (.int 64 tkMOST_BEATS)))
    : ∃ fd : FuncData, (∀ (s : Shared) (v : Value), BindsTo s fd ⟨[v], []⟩ [("_law_script", v)]) ∧ ∀ base : Heap, K.In base → base.Ns mainGlobals mg → FnOk l.prog w K mg base (CX0) 3 fa fd ["_law_script"] (spLaw K) := by
  have e := hfa.symm.trans (PySem.W.mg_of X G a9)
  cases e
  have F1 := fun_mk (st := sCheck) l1 c1 k1
  have b1 := F1.binds (ps := ["beats", "pulses"]) fun _ _ _ _ _ _ us hl => match us, hl with | [_, _], _ => rfl
  have g1 := PySem.W.mg_of X G a1
  have F2 := fun_mk (st := sAhead) l2 c2 k2
  have b2 := F2.binds (ps := ["at", "beats", "pulses"]) fun _ _ _ _ _ _ us hl => match us, hl with | [_, _, _], _ => rfl
  have g2 := PySem.W.mg_of X G a2
  have F3 := fun_mk (st := sEven) l3 c3 k3
  have b3 := F3.binds (ps := ["beats", "pulses", "turn"]) fun _ _ _ _ _ _ us hl => match us, hl with | [_, _, _], _ => rfl
  have g3 := PySem.W.mg_of X G a3
  have F4 := fun_mk (st := sStart) l4 c4 k4
  have b4 := F4.binds (ps := ["_law_script"]) fun _ _ _ _ _ _ us hl => match us, hl with | [_], _ => rfl
  have g4 := PySem.W.mg_of X G a4
  have F5 := fun_mk (st := sDrawn) l5 c5 k5
  have b5 := F5.binds (ps := ["_law_state", "_law_many"]) fun _ _ _ _ _ _ us hl => match us, hl with | [_, _], _ => rfl
  have g5 := PySem.W.mg_of X G a5
  have F6 := fun_mk (st := sSame) l6 c6 k6
  have b6 := F6.binds (ps := ["_law_found", "_law_due"]) fun _ _ _ _ _ _ us hl => match us, hl with | [_, _], _ => rfl
  have g6 := PySem.W.mg_of X G a6
  have F7 := fun_mk (st := sShare) l7 c7 k7
  have b7 := F7.binds (ps := ["_law_state"]) fun _ _ _ _ _ _ us hl => match us, hl with | [_], _ => rfl
  have g7 := PySem.W.mg_of X G a7
  have F8 := fun_mk (st := sLEven) l8 c8 k8
  have b8 := F8.binds (ps := ["_law_beats", "_law_pulses", "_law_turn"]) fun _ _ _ _ _ _ us hl => match us, hl with | [_, _, _], _ => rfl
  have g8 := PySem.W.mg_of X G a8
  have F9 := fun_mk (st := sLaw) l9 c9 k9
  have m_isinstance := PySem.W.mg_none_of X G z_isinstance
  have m_tuple := PySem.W.mg_none_of X G z_tuple
  have m_list := PySem.W.mg_none_of X G z_list
  have m_str := PySem.W.mg_none_of X G z_str
  have m_bool := PySem.W.mg_none_of X G z_bool
  have m_int := PySem.W.mg_none_of X G z_int
  have m_len := PySem.W.mg_none_of X G z_len
  have m_range := PySem.W.mg_none_of X G z_range
  have m_sum := PySem.W.mg_none_of X G z_sum
  have mcMOST_BEATS : ∃ u, mg "MOST_BEATS" = some u ∧ RelV (.int 64) u := ⟨_, PySem.W.mg_of X G nMOST_BEATS, _, rfl⟩
  exact ⟨PySem.W.fnOf "law" "law" (defArgs sLaw) (defBody sLaw) (defScope sLaw) .none kV9 dc9 pm9 an9 cd9 ct9, fun s v => .of_eq rfl, fun base _ _ => ok_law F9 F4 b4 g4 F5 b5 g5 F6 b6 g6 F7 b7 g7 F8 b8 g8 F3 b3 g3 F1 b1 g1 mcMOST_BEATS F2 b2 g2 m_isinstance m_tuple m_list m_str m_bool m_int m_len m_range m_sum⟩
end K02
open PySem PySem.W PyProof.Rows
set_option maxRecDepth 100000 in
set_option maxHeartbeats 0 in
theorem PySem.Challenge.cw_pulseshare_k02_even_frames_holds : PySem.Challenge.rw_pulseshare_k02_even_frames.Holds := by
  w_on; o_law; k_head; (case hw => w_witness2)
  k_fill
  refine L2.walk_of (l := PySem.Challenge.rw_pulseshare_k02_even_frames) (n := 63) (k := 3) (x := "_law_script") (CX := fun _ => L2.CX0) (sp := fun w => Cm.spLaw _) rfl (by decide) rfl ⟨rfl, by decide, by decide⟩ (fun w h Y => PySem.W.kIn_of Y) ?F (fun _ _ a ns hl hO hS => ⟨a, ns, rfl, Cm.Scr.of hO hS, fun _ => rfl⟩) (fun _ _ _ _ _ h => h)
  case F =>
    intro w mg fa h KX G hmg
    refine' K02.all_mk KX G hmg ?a1 ?l1 ?c1 ?k1 ?a2 ?l2 ?c2 ?k2 ?a3 ?l3 ?c3 ?k3 ?a4 ?l4 ?c4 ?k4 ?a5 ?l5 ?c5 ?k5 ?a6 ?l6 ?c6 ?k6 ?a7 ?l7 ?c7 ?k7 ?a8 ?l8 ?c8 ?k8 ?a9 ?l9 ?c9 ?k9 ?z_isinstance ?z_tuple ?z_list ?z_str ?z_bool ?z_int ?z_len ?z_range ?z_sum ?nMOST_BEATS
    (case a1 => k_is)
    (case l1 => k_is)
    (case c1 => k_is)
    (case k1 => k_is)
    (case a2 => k_is)
    (case l2 => k_is)
    (case c2 => k_is)
    (case k2 => k_is)
    (case a3 => k_is)
    (case l3 => k_is)
    (case c3 => k_is)
    (case k3 => k_is)
    (case a4 => k_is)
    (case l4 => k_is)
    (case c4 => k_is)
    (case k4 => k_is)
    (case a5 => k_is)
    (case l5 => k_is)
    (case c5 => k_is)
    (case k5 => k_is)
    (case a6 => k_is)
    (case l6 => k_is)
    (case c6 => k_is)
    (case k6 => k_is)
    (case a7 => k_is)
    (case l7 => k_is)
    (case c7 => k_is)
    (case k7 => k_is)
    (case a8 => k_is)
    (case l8 => k_is)
    (case c8 => k_is)
    (case k8 => k_is)
    (case a9 => k_is)
    (case l9 => k_is)
    (case c9 => k_is)
    (case k9 => k_is)
    (case z_isinstance => k_is)
    (case z_tuple => k_is)
    (case z_list => k_is)
    (case z_str => k_is)
    (case z_bool => k_is)
    (case z_int => k_is)
    (case z_len => k_is)
    (case z_range => k_is)
    (case z_sum => k_is)
    (case nMOST_BEATS => k_is)
