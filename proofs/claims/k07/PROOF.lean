import PyProof.Rows.All
import Wide.All
import OpenK.AllK
import Wide.FinOn
import HandS.ForMost
import HandS.Wide
import HandS.IsInst
import HandS.EndBits
import HandS.Style
import HandS.SortInts
import HandS.Evl
import PySem.Challenge.RW_wholepages_k07_comparisons
set_option Elab.async false
set_option linter.all false
set_option maxRecDepth 100000
set_option maxHeartbeats 4000000

/-! ## Common: steps of a reading, heaps, the law's own helpers -/
namespace Y
open PySem PySem.Spec PyProof.Rows L2
/-! ### steps -/
section
variable {K : PySem.W.Frag} {σ : L2.St} {H : Hp} {D : Ends} {ta tb te tc : TE} {t u : TS} {c d : TT} {Q : VK} {R : Bool → Hp → Prop}
theorem c_seq (h : t { D with nx := u D } σ H) : tSeq t u D σ H := h
theorem st_of {t : TS} {σ0 : L2.St} (e : σ0 = σ) (h : t D σ H) : t D σ0 H := by
  rw [e]
  exact h
theorem c_next (h : D.nx σ H) : tNext D σ H := h
theorem c_asg {g : TG} (h : te σ H fun x H1 => g x σ H1 D.nx) : tAsg te g D σ H := h
theorem c_gname {i : Nat} {v : V} {Q : L2.St → Hp → Prop} (h : Q (σ.set i (some v)) H) : gName i v σ H Q := h
theorem c_gsub {to ti : TE} {s : TSet} {v : V} {Q : L2.St → Hp → Prop} (h : to σ H fun o H1 => ti σ H1 fun i H2 => s o i v H2 fun H3 => Q σ H3) : gSub to ti s v σ H Q := h
theorem c_drop (h : te σ H fun _ H1 => D.nx σ H1) : tDrop te D σ H := h
theorem c_ret (h : te σ H D.rt) : tRet te D σ H := h
theorem c_retN (h : D.rt .non H) : tRetN D σ H := h
theorem c_ifs (h : c σ H fun b H1 => if b = true then t D σ H1 else u D σ H1) : tIfS c t u D σ H := h
theorem c_var {i : Nat} {v : V} (e : σ[i]? = some (some v)) (h : Q v H) : tVar i σ H Q := ⟨v, e, h⟩
theorem c_c {v : V} (h : Q v H) : tC v σ H Q := h
theorem c_op {r : R2} (h : ta σ H fun x H1 => tb σ H1 fun y H2 => r x y H2 Q) : tOp r ta tb σ H Q := h
theorem c_un {r : V → Hp → VK → Prop} (h : ta σ H fun x H1 => r x H1 Q) : tUn r ta σ H Q := h
theorem c_test (h : te σ H fun x H1 => ∃ k, x = .bl k ∧ R k H1) : tTest te σ H R := h
theorem c_B (h : te σ H fun x H1 => ∃ k, x = .bl k ∧ R k H1) : tB te σ H R := h
theorem c_bl {k : Bool} (h : R k H) : ∃ k', V.bl k = .bl k' ∧ R k' H := ⟨k, rfl, h⟩
theorem c_and (h : c σ H fun b H1 => if b = true then d σ H1 R else R false H1) : tAnd c d σ H R := h
theorem c_or (h : c σ H fun b H1 => if b = true then R true H1 else d σ H1 R) : tOr c d σ H R := h
theorem c_not (h : c σ H fun b H1 => R (!b) H1) : tNot c σ H R := h
theorem c_andV (h : ta σ H fun x H1 => ∃ b, x = .bl b ∧ if b = true then tb σ H1 Q else Q (.bl false) H1) : tAndV ta tb σ H Q := h
theorem c_orV (h : ta σ H fun x H1 => ∃ b, x = .bl b ∧ if b = true then Q (.bl true) H1 else tb σ H1 Q) : tOrV ta tb σ H Q := h
theorem c_notV (h : ta σ H fun x H1 => ∃ b, x = .bl b ∧ Q (.bl (!b)) H1) : tNotV ta σ H Q := h
theorem c_if (h : c σ H fun b H1 => if b = true then ta σ H1 Q else tb σ H1 Q) : tIf c ta tb σ H Q := h
theorem c_CB {r : List V → Hp → VK → Prop} {t : TA} (h : t σ H fun vs H1 => r vs H1 Q) : tCB r t σ H Q := h
theorem c_nil {Q : List V → Hp → Prop} (h : Q [] H) : tNil σ H Q := h
theorem c_cons {tr : TA} {Q : List V → Hp → Prop} (h : ta σ H fun x H1 => tr σ H1 fun xs H2 => Q (x :: xs) H2) : tCons ta tr σ H Q := h
theorem c_call {sp : Sp} {dvs : List V} {E : XK} {t : TA} (h : t σ H fun vs H1 => sp (vs ++ dvs) H1 Q E) : tCall sp dvs E t σ H Q := h
theorem c_lst {t : TA} (h : t σ H fun xs H1 => xs.length ≤ sizeLine ∧ ∀ p, H1 p = none → Q (.ref p) (upd H1 p (.lst xs))) : tLst t σ H Q := h
theorem c_tup {t : TA} (h : t σ H fun xs H1 => xs.length ≤ sizeLine ∧ ∀ p, H1 p = none → Q (.ref p) (upd H1 p (.tup xs))) : tTup t σ H Q := h
theorem c_BM {T : String} {r : V → List V → Hp → VK → Prop} {to : TE} {t : TA} (h : to σ H fun x H1 => tyV K T x H1 ∧ t σ H1 fun xs H2 => r x xs H2 Q) : tBM K T r to t σ H Q := h
theorem c_BM0 {T : String} {r : V → List V → Hp → VK → Prop} {to : TE} (h : to σ H fun x H1 => tyV K T x H1 ∧ r x [] H1 Q) : tBM0 K T r to σ H Q := h
theorem c_chain {r r' : R2} (h : ta σ H fun x H1 => tb σ H1 fun y H2 => r x y H2 fun z H3 => ∃ k, z = .bl k ∧ if k = true then tc σ H3 fun w H4 => r' y w H4 Q else Q (.bl false) H3) : tChain r r' ta tb tc σ H Q := h
theorem c_for {wi : TI} {g : TG} {D : Ends} {xs : List V} {a : Addr} (hx : SqL K H a xs)
    (h : ∃ W : Nat → Nat → L2.St → Hp → Prop, (∃ m, W 0 m σ H) ∧ ∀ i m σ H, W i m σ H →
      ((Itl K a).stop i H ∧ D.nx σ H) ∨ ((Itl K a).go i H ∧ ∃ N : L2.St → Hp → Prop, (∀ σ' H', N σ' H' → ∃ m', m' < m ∧ W (i + 1) m' σ' H') ∧ ∀ x H', (Itl K a).yld i H x H' → g x σ H' fun σ2 H2 => t { D with nx := N, ct := N, bk := D.nx } σ2 H2)) :
    ∃ a', V.ref a = .ref a' ∧ (∃ xs, SqL K H a' xs) ∧ ∃ W : Nat → Nat → L2.St → Hp → Prop, (∃ m, W 0 m σ H) ∧ ∀ i m σ H, W i m σ H →
      ((Itl K a').stop i H ∧ D.nx σ H) ∨ ((Itl K a').go i H ∧ ∃ N : L2.St → Hp → Prop, (∀ σ' H', N σ' H' → ∃ m', m' < m ∧ W (i + 1) m' σ' H') ∧ ∀ x H', (Itl K a').yld i H x H' → g x σ H' fun σ2 H2 => t { D with nx := N, ct := N, bk := D.nx } σ2 H2) := ⟨a, rfl, ⟨xs, hx⟩, h⟩
/-- for x in xs, by what holds ahead of each turn -/
theorem c_forL {tl : TE} {g : TG} (h : tl σ H fun x H1 => ∃ a xs, x = .ref a ∧ SqL K H1 a xs ∧ ∃ Pv : Nat → L2.St → Hp → Prop, Pv 0 σ H1 ∧ (∀ i σ H, i ≤ xs.length → Pv i σ H → SqL K H a xs) ∧
      (∀ i x σ H, xs[i]? = some x → Pv i σ H → g x σ H fun σ2 H2 => t { D with nx := Pv (i + 1), ct := Pv (i + 1), bk := D.nx } σ2 H2) ∧ (∀ σ H, Pv xs.length σ H → D.nx σ H))
    (mono : ∀ Q Q' : VK, (∀ v H, Q v H → Q' v H) → tl σ H Q → tl σ H Q') : tFor (iList K tl) g t D σ H := by
  refine mono _ _ (fun v H1 h => ?_) h
  obtain ⟨a, xs, rfl, hx, Pv, h0, hl, hs, hd⟩ := h
  exact ⟨a, rfl, ⟨xs, hx⟩, for_list (xs := xs) Pv h0 hl hs hd⟩
theorem c_rng1 {ta : TA} {g : TG} (h : ta σ H fun vs H1 => ∃ j : Int, vs = [.int j] ∧ -(2 ^ 62) ≤ j ∧ j < 2 ^ 62 ∧ ∃ W : Nat → Nat → L2.St → Hp → Prop, (∃ m, W 0 m σ H1) ∧ ∀ i m σ H, W i m σ H →
      ((Itr 0 j.toNat).stop i H ∧ D.nx σ H) ∨ ((Itr 0 j.toNat).go i H ∧ ∃ N : L2.St → Hp → Prop, (∀ σ' H', N σ' H' → ∃ m', m' < m ∧ W (i + 1) m' σ' H') ∧ ∀ x H', (Itr 0 j.toNat).yld i H x H' → g x σ H' fun σ2 H2 => t { D with nx := N, ct := N, bk := D.nx } σ2 H2)) :
    tFor (iRng1 ta) g t D σ H := h
theorem c_forList {tl : TE} {g : TG} (h : tl σ H fun x H1 => ∃ a, x = .ref a ∧ (∃ xs, SqL K H1 a xs) ∧ ∃ W : Nat → Nat → L2.St → Hp → Prop, (∃ m, W 0 m σ H1) ∧ ∀ i m σ H, W i m σ H →
      ((Itl K a).stop i H ∧ D.nx σ H) ∨ ((Itl K a).go i H ∧ ∃ N : L2.St → Hp → Prop, (∀ σ' H', N σ' H' → ∃ m', m' < m ∧ W (i + 1) m' σ' H') ∧ ∀ x H', (Itl K a).yld i H x H' → g x σ H' fun σ2 H2 => t { D with nx := N, ct := N, bk := D.nx } σ2 H2)) :
    tFor (iList K tl) g t D σ H := h
theorem c_forTup {tl : TE} {g : TG} (h : tl σ H fun x H1 => ∃ a, x = .ref a ∧ (∃ xs, SqT K H1 a xs) ∧ ∃ W : Nat → Nat → L2.St → Hp → Prop, (∃ m, W 0 m σ H1) ∧ ∀ i m σ H, W i m σ H →
      ((Itt K a).stop i H ∧ D.nx σ H) ∨ ((Itt K a).go i H ∧ ∃ N : L2.St → Hp → Prop, (∀ σ' H', N σ' H' → ∃ m', m' < m ∧ W (i + 1) m' σ' H') ∧ ∀ x H', (Itt K a).yld i H x H' → g x σ H' fun σ2 H2 => t { D with nx := N, ct := N, bk := D.nx } σ2 H2)) :
    tFor (iTup K tl) g t D σ H := h
/-! operators by values -/
theorem r_I0 {g : Int → Int → V} {i j : Int} (h : Q (g i j) H) : rI0 g (.int i) (.int j) H Q := ⟨i, j, rfl, rfl, h⟩
theorem r_I {C : Int → Int → Prop} {g : Int → Int → V} {i j : Int} (hc : C i j) (h : Q (g i j) H) : rI C g (.int i) (.int j) H Q := ⟨i, j, rfl, rfl, hc, h⟩
theorem r_U {g : Int → V} {i : Int} (h : Q (g i) H) : rU g (.int i) H Q := ⟨i, rfl, h⟩
theorem dec_int {i j : Int} : decide (V.int i = V.int j) = decide (i = j) := by
  by_cases h : i = j
  · rw [decide_eq_true h, h, decide_eq_true rfl]
  · rw [decide_eq_false h, decide_eq_false fun z => h (V.int.inj z)]
theorem dec_bl {i j : Bool} : decide (V.bl i = V.bl j) = decide (i = j) := by cases i <;> cases j <;> rfl
theorem dec_str {i j : Str} : decide (V.str i = V.str j) = decide (i = j) := by
  by_cases h : i = j
  · rw [decide_eq_true h, h, decide_eq_true rfl]
  · rw [decide_eq_false h, decide_eq_false fun z => h (V.str.inj z)]
theorem r_eqI {i j : Int} (h : Q (.bl (decide (i = j))) H) : rEq (.int i) (.int j) H Q := ⟨rfl, by rw [dec_int]; exact h⟩
theorem r_neI {i j : Int} (h : Q (.bl (!decide (i = j))) H) : rNe (.int i) (.int j) H Q := ⟨rfl, by rw [dec_int]; exact h⟩
theorem r_eqB {i j : Bool} (h : Q (.bl (decide (i = j))) H) : rEq (.bl i) (.bl j) H Q := ⟨rfl, by rw [dec_bl]; exact h⟩
theorem r_neB {i j : Bool} (h : Q (.bl (!decide (i = j))) H) : rNe (.bl i) (.bl j) H Q := ⟨rfl, by rw [dec_bl]; exact h⟩
theorem r_eqS {i j : Str} (h : Q (.bl (decide (i = j))) H) : rEq (.str i) (.str j) H Q := ⟨rfl, by rw [dec_str]; exact h⟩
theorem r_neS {i j : Str} (h : Q (.bl (!decide (i = j))) H) : rNe (.str i) (.str j) H Q := ⟨rfl, by rw [dec_str]; exact h⟩
theorem r_isN {x : V} (h : Q (.bl (decide (x = .non))) H) : (fun (x y : V) (H : Hp) (Q : VK) => y = .non ∧ Q (.bl (decide (x = .non))) H) x .non H Q := ⟨rfl, h⟩
theorem r_ixL {p : Addr} {xs : List V} {i : Int} {v : V} (hx : SqL K H p xs) (ha : atI xs i = some v) (h : Q v H) : rIxL K (.ref p) (.int i) H Q := ⟨p, xs, i, v, rfl, rfl, hx, ha, h⟩
theorem r_ixT {p : Addr} {xs : List V} {i : Int} {v : V} (hx : SqT K H p xs) (ha : atI xs i = some v) (h : Q v H) : rIxT K (.ref p) (.int i) H Q := ⟨p, xs, i, v, rfl, rfl, hx, ha, h⟩
theorem r_inL {n : Bool} {p : Addr} {x : V} {xs : List V} (hx : SqL K H p xs) (h1 : flatV x = true) (h2 : xs.all flatV = true) (h : Q (.bl (if n then !inV x xs else inV x xs)) H) : rIn K n x (.ref p) H Q := ⟨p, xs, rfl, .inl hx, h1, h2, h⟩
theorem r_inT {n : Bool} {p : Addr} {x : V} {xs : List V} (hx : SqT K H p xs) (h1 : flatV x = true) (h2 : xs.all flatV = true) (h : Q (.bl (if n then !inV x xs else inV x xs)) H) : rIn K n x (.ref p) H Q := ⟨p, xs, rfl, .inr hx, h1, h2, h⟩
theorem r_lenL {p : Addr} {xs : List V} (hx : SqL K H p xs) (h : Q (.int xs.length) H) : (fun (xs : List V) (H : Hp) (Q : VK) => ∃ p ys, xs = [.ref p] ∧ (SqL K H p ys ∨ SqT K H p ys) ∧ Q (.int ys.length) H) [.ref p] H Q := ⟨p, xs, rfl, .inl hx, h⟩
theorem r_lenT {p : Addr} {xs : List V} (hx : SqT K H p xs) (h : Q (.int xs.length) H) : (fun (xs : List V) (H : Hp) (Q : VK) => ∃ p ys, xs = [.ref p] ∧ (SqL K H p ys ∨ SqT K H p ys) ∧ Q (.int ys.length) H) [.ref p] H Q := ⟨p, xs, rfl, .inr hx, h⟩
theorem r_app {p : Addr} {xs : List V} {y : V} (hx : H p = some (.lst xs)) (hl : xs.length < sizeLine) (h : Q .non (upd H p (.lst (xs ++ [y])))) : rAppend (.ref p) [y] H Q := ⟨p, xs, y, rfl, rfl, hx, hl, h⟩
theorem r_pop {p : Addr} {xs : List V} {y : V} (hx : H p = some (.lst (xs ++ [y]))) (h : Q y (upd H p (.lst xs))) : rPop (.ref p) [] H Q :=
  ⟨p, xs ++ [y], y, rfl, rfl, hx, by simp, by rw [List.dropLast_concat]; exact h⟩
theorem r_setL {p : Addr} {xs : List V} {i : Int} {j : Nat} {v : V} {Q : Hp → Prop} (hx : H p = some (.lst xs)) (hj : ixN xs.length i = some j) (h : Q (upd H p (.lst (xs.set j v)))) : rSetL (.ref p) (.int i) v H Q := ⟨p, xs, i, j, rfl, rfl, hx, hj, h⟩
theorem r_pow18 {H : Hp} {Q : VK} (h : Q (.int 1000000000000000000) H) : rI CPow (fun i j => .int (i ^ j.toNat)) (.int 10) (.int 18) H Q := r_I ⟨by decide, by decide, by decide⟩ h
theorem r_pow17 {H : Hp} {Q : VK} (h : Q (.int 100000000000000000) H) : rI CPow (fun i j => .int (i ^ j.toNat)) (.int 10) (.int 17) H Q := r_I ⟨by decide, by decide, by decide⟩ h
theorem ixn {n j : Nat} (h : j < n) : ixN n (j : Int) = some j := by
  unfold ixN
  rw [if_pos (by omega), if_pos (by omega)]
  rfl
theorem map_at {ns : List Int} {i : Nat} (h : i < ns.length) : (ns.map V.int)[i]? = some (.int ns[i]) := by
  rw [List.getElem?_map, List.getElem?_eq_getElem h]
  rfl
theorem r_tyL {p : Addr} {xs : List V} (hx : SqL K H p xs) {B : Prop} (h : B) : tyV K "list" (.ref p) H ∧ B := ⟨.inl ⟨rfl, _, hx⟩, h⟩
end
/-! ### tests -/
theorem i_T {b : Bool} {A B : Prop} (hb : b = true) (h : A) : if b = true then A else B := by
  rw [if_pos hb]
  exact h
theorem i_F {b : Bool} {A B : Prop} (hb : b = false) (h : B) : if b = true then A else B := by
  rw [hb, if_neg Bool.false_ne_true]
  exact h
theorem i_2 {b : Bool} {A B : Prop} (h1 : b = true → A) (h2 : b = false → B) : if b = true then A else B := by
  cases b with
  | true => exact i_T rfl (h1 rfl)
  | false => exact i_F rfl (h2 rfl)
theorem i_d {p : Prop} [Decidable p] {A B : Prop} (h1 : p → A) (h2 : ¬ p → B) : if decide p = true then A else B := by
  by_cases h : p
  · exact i_T (decide_eq_true h) (h1 h)
  · exact i_F (decide_eq_false h) (h2 h)
theorem i_n {p : Prop} [Decidable p] {A B : Prop} (h1 : ¬ p → A) (h2 : p → B) : if (!decide p) = true then A else B := by
  by_cases h : p
  · exact i_F (by rw [decide_eq_true h]; rfl) (h2 h)
  · exact i_T (by rw [decide_eq_false h]; rfl) (h1 h)
theorem small {n : Nat} (h : n ≤ 100000) : n ≤ sizeLine := Nat.le_trans h (by decide)
theorem smallLt {n : Nat} (h : n < 100000) : n < sizeLine := Nat.lt_of_lt_of_le h (by decide)
/-! ### heaps: what stays but at S -/
def Ex (S : Addr) (H H' : Hp) : Prop := ∀ a o, a ≠ S → H a = some o → H' a = some o
theorem Ex.refl (S : Addr) (H : Hp) : Ex S H H := fun _ _ _ h => h
theorem Ex.trans {S : Addr} {H H1 H2 : Hp} (a : Ex S H H1) (b : Ex S H1 H2) : Ex S H H2 := fun x o n h => b x o n (a x o n h)
theorem Ex.new {S : Addr} {H H1 : Hp} {p : Addr} {o : HO} (e : Ex S H H1) (h : H1 p = none) : Ex S H (upd H1 p o) := fun a u n ha => by
  rw [upd_ne (ne_of_none (e a u n ha) h)]
  exact e a u n ha
theorem Ex.mut {S : Addr} {H H1 : Hp} {p : Addr} {o : HO} (e : Ex S H H1) (h : H p = none) : Ex S H (upd H1 p o) := fun a u n ha => by
  rw [upd_ne (ne_of_none ha h)]
  exact e a u n ha
theorem Ex.at {S : Addr} {H H1 : Hp} {o : HO} (e : Ex S H H1) : Ex S H (upd H1 S o) := fun a u n ha => by
  rw [upd_ne n]
  exact e a u n ha
theorem Ex.same {S : Addr} {H H1 H2 : Hp} (e : Ex S H H1) (s : Same H1 H2) : Ex S H H2 := fun a u n ha => s a u (e a u n ha)
theorem same_new {H H1 : Hp} {p : Addr} {o : HO} (e : Same H H1) (h : H1 p = none) : Same H (upd H1 p o) := fun a u ha => by
  rw [upd_ne (ne_of_none (e a u ha) h)]
  exact e a u ha
theorem same_mut {H H1 : Hp} {p : Addr} {o : HO} (e : Same H H1) (h : H p = none) : Same H (upd H1 p o) := fun a u ha => by
  rw [upd_ne (ne_of_none ha h)]
  exact e a u ha
theorem same_tup {K : PySem.W.Frag} {H H' : Hp} {a : Addr} {xs : List V} (e : Same H H') (h : SqT K H a xs) : SqT K H' a xs := by
  rcases h with (h | ⟨o, h⟩) | h
  · exact .inl (.inl (e _ _ h))
  · exact .inl (.inr ⟨o, e _ _ h⟩)
  · exact .inr h
theorem Ex.seq {K : PySem.W.Frag} {S : Addr} {H H' : Hp} {a : Addr} {xs : List V} (e : Ex S H H') (n : a ≠ S) (h : SqL K H a xs) : SqL K H' a xs := by
  rcases h with (h | ⟨o, h⟩) | h
  · exact .inl (.inl (e _ _ n h))
  · exact .inl (.inr ⟨o, e _ _ n h⟩)
  · exact .inr h
theorem Ex.tup {K : PySem.W.Frag} {S : Addr} {H H' : Hp} {a : Addr} {xs : List V} (e : Ex S H H') (n : a ≠ S) (h : SqT K H a xs) : SqT K H' a xs := by
  rcases h with (h | ⟨o, h⟩) | h
  · exact .inl (.inl (e _ _ n h))
  · exact .inl (.inr ⟨o, e _ _ n h⟩)
  · exact .inr h
theorem sql {K : PySem.W.Frag} {H : Hp} {a : Addr} {xs : List V} (h : H a = some (.lst xs)) : SqL K H a xs := .inl (.inl h)
theorem sqt {K : PySem.W.Frag} {H : Hp} {a : Addr} {xs : List V} (h : H a = some (.tup xs)) : SqT K H a xs := .inl (.inl h)

theorem seq' {K : PySem.W.Frag} {H H' : Hp} {a : Addr} {xs : List V} (h : SqL K H a xs) (e : Same H H') : SqL K H' a xs := e.seq h
theorem tup' {K : PySem.W.Frag} {H H' : Hp} {a : Addr} {xs : List V} (h : SqT K H a xs) (e : Same H H') : SqT K H' a xs := same_tup e h
theorem same_at {H H' : Hp} {a : Addr} {o : HO} (e : Same H H') (h : H a = some o) : H' a = some o := e _ _ h
theorem ex_at {S : Addr} {H H' : Hp} {a : Addr} {o : HO} (e : Ex S H H') (n : a ≠ S) (h : H a = some o) : H' a = some o := e _ _ n h
theorem ne_nn {H : Hp} {a b : Addr} {o : HO} (h' : H b = none) (h : H a = some o) : a ≠ b := ne_of_none h h'
theorem ne_nn' {H : Hp} {a b : Addr} {o : HO} (h' : H b = none) (h : H a = some o) : b ≠ a := (ne_of_none h h').symm
section
variable {K : PySem.W.Frag} {σ : L2.St} {H : Hp} {tb te : TE} {c : TT} {Q : VK} {g : TG} {vs : List Nat}
theorem c_lcT (h : te σ H fun x H1 => ∃ a, x = .ref a ∧ (∃ xs, SqT K H1 a xs) ∧ ∀ D, H1 D = none → ∃ W : Nat → Nat → Hp → Prop, (∃ m, W 0 m (upd H1 D (.lst []))) ∧ ∀ i m G, W i m G →
      ((Itt K a).stop i G ∧ Q (.ref D) G) ∨ ((Itt K a).go i G ∧ ∃ Nx : Hp → Prop, (∀ G', Nx G' → ∃ m', m' < m ∧ W (i + 1) m' G') ∧ ∀ x G', (Itt K a).yld i G x G' → g x (wipe σ vs) G' fun σ2 H2 => wipe σ2 vs = wipe σ vs ∧ c σ2 H2 fun b H3 =>
        if b = true then tb σ2 H3 fun y H4 => ∃ acc, H4 D = some (.lst acc) ∧ acc.length < sizeLine ∧ Nx (upd H4 D (.lst (acc ++ [y]))) else Nx H3)) : tLc (iTup K te) g c tb vs σ H Q := h
theorem c_lcL (h : te σ H fun x H1 => ∃ a, x = .ref a ∧ (∃ xs, SqL K H1 a xs) ∧ ∀ D, H1 D = none → ∃ W : Nat → Nat → Hp → Prop, (∃ m, W 0 m (upd H1 D (.lst []))) ∧ ∀ i m G, W i m G →
      ((Itl K a).stop i G ∧ Q (.ref D) G) ∨ ((Itl K a).go i G ∧ ∃ Nx : Hp → Prop, (∀ G', Nx G' → ∃ m', m' < m ∧ W (i + 1) m' G') ∧ ∀ x G', (Itl K a).yld i G x G' → g x (wipe σ vs) G' fun σ2 H2 => wipe σ2 vs = wipe σ vs ∧ c σ2 H2 fun b H3 =>
        if b = true then tb σ2 H3 fun y H4 => ∃ acc, H4 D = some (.lst acc) ∧ acc.length < sizeLine ∧ Nx (upd H4 D (.lst (acc ++ [y]))) else Nx H3)) : tLc (iList K te) g c tb vs σ H Q := h
theorem c_lcR {ta : TA} (h : ta σ H fun us H1 => ∃ j : Int, us = [.int j] ∧ -(2 ^ 62) ≤ j ∧ j < 2 ^ 62 ∧ ∀ D, H1 D = none → ∃ W : Nat → Nat → Hp → Prop, (∃ m, W 0 m (upd H1 D (.lst []))) ∧ ∀ i m G, W i m G →
      ((Itr 0 j.toNat).stop i G ∧ Q (.ref D) G) ∨ ((Itr 0 j.toNat).go i G ∧ ∃ Nx : Hp → Prop, (∀ G', Nx G' → ∃ m', m' < m ∧ W (i + 1) m' G') ∧ ∀ x G', (Itr 0 j.toNat).yld i G x G' → g x (wipe σ vs) G' fun σ2 H2 => wipe σ2 vs = wipe σ vs ∧ c σ2 H2 fun b H3 =>
        if b = true then tb σ2 H3 fun y H4 => ∃ acc, H4 D = some (.lst acc) ∧ acc.length < sizeLine ∧ Nx (upd H4 D (.lst (acc ++ [y]))) else Nx H3)) : tLc (iRng1 ta) g c tb vs σ H Q := h
theorem c_yes {R : Bool → Hp → Prop} (h : R true H) : tYes σ H R := h
theorem in_bl (b : Bool) : ∀ bs : List Bool, inV (.bl b) (bs.map V.bl) = bs.contains b
  | [] => rfl
  | x :: r => by
    have ih := in_bl b r
    unfold inV at ih ⊢
    rw [List.map_cons, List.any_cons, ih, List.contains_cons]
    congr 1
    cases b <;> cases x <;> rfl
theorem flat_bl : ∀ bs : List Bool, (bs.map V.bl).all flatV = true
  | [] => rfl
  | x :: r => by
    rw [List.map_cons, List.all_cons, flat_bl r]
    rfl
end
/-! x is True, x is False where x may be None -/
def rIsW : R2 := fun x y H Q => ∃ b : Bool, y = .bl b ∧ (x = .non ∨ ∃ a, x = .bl a) ∧ Q (.bl (decide (x = .bl b))) H
def rNotW : R2 := fun x y H Q => ∃ b : Bool, y = .bl b ∧ (x = .non ∨ ∃ a, x = .bl a) ∧ Q (.bl (!decide (x = .bl b))) H
theorem op_isW {X : Cx} : OpR X (compareOp .Is) rIsW := by
  intro pins s σ H x y v u Q I rx ry h
  obtain ⟨b, rfl, hx, q⟩ := h
  cases (show u = Value.bool b from ry)
  rcases hx with rfl | ⟨a, rfl⟩
  · cases (show v = Value.none from rx)
    exact wpAny_is_other rfl (fun z => nomatch z) ⟨.bl false, H, I, rfl, by simpa using q⟩
  · cases (show v = Value.bool a from rx)
    by_cases e : a = b
    · subst e
      exact wpAny_is_self rfl ⟨.bl true, H, I, rfl, by simpa using q⟩
    · exact wpAny_is_other rfl (fun z => e (Value.bool.inj z)) ⟨.bl false, H, I, rfl, by simpa [e] using q⟩
theorem op_notW {X : Cx} : OpR X (compareOp .IsNot) rNotW := by
  intro pins s σ H x y v u Q I rx ry h
  obtain ⟨b, rfl, hx, q⟩ := h
  cases (show u = Value.bool b from ry)
  rcases hx with rfl | ⟨a, rfl⟩
  · cases (show v = Value.none from rx)
    exact wpAny_isNot_other rfl (fun z => nomatch z) ⟨.bl true, H, I, rfl, by simpa using q⟩
  · cases (show v = Value.bool a from rx)
    by_cases e : a = b
    · subst e
      exact wpAny_isNot_self rfl ⟨.bl false, H, I, rfl, by simpa using q⟩
    · exact wpAny_isNot_other rfl (fun z => e (Value.bool.inj z)) ⟨.bl true, H, I, rfl, by simpa [e] using q⟩
theorem r_isW {x : V} {b : Bool} {H : Hp} {Q : VK} (hx : x = .non ∨ ∃ a, x = .bl a) (q : Q (.bl (decide (x = .bl b))) H) : rIsW x (.bl b) H Q := ⟨b, rfl, hx, q⟩
theorem r_notW {x : V} {b : Bool} {H : Hp} {Q : VK} (hx : x = .non ∨ ∃ a, x = .bl a) (q : Q (.bl (!decide (x = .bl b))) H) : rNotW x (.bl b) H Q := ⟨b, rfl, hx, q⟩

/-! ### the words: "rd" goes on as far as it can; "hp" finds what stands at an address; "t" "f" a test that is known -/
local macro_rules | `(tactic| walk_at "h0") => `(tactic| first | assumption | exact upd_same)
local macro_rules | `(tactic| walk_at "n0") => `(tactic| first
  | assumption | (apply Ne.symm; assumption) | exact ne_nn (by assumption) (by walk_at "h0") | exact ne_nn' (by assumption) (by walk_at "h0"))
local macro_rules | `(tactic| walk_at "hq") => `(tactic| first
  | assumption | exact upd_same | exact (upd_ne (by walk_at "n0")).trans (by walk_at "hq"))
local macro_rules | `(tactic| walk_at "ne") => `(tactic| first
  | assumption | (apply Ne.symm; assumption) | exact ne_nn (by assumption) (by walk_at "hq") | exact ne_nn' (by assumption) (by walk_at "hq"))
local macro_rules | `(tactic| walk_at "hp") => `(tactic| first
  | assumption
  | exact upd_same
  | exact (upd_ne (by walk_at "ne")).trans (by walk_at "hp")
  | exact same_at (by assumption) (by walk_at "hp")
  | exact ex_at (by assumption) (by walk_at "ne") (by walk_at "hp"))
local macro_rules | `(tactic| walk_at "sm") => `(tactic| first
  | assumption
  | exact Same.refl _
  | exact same_new (by walk_at "sm") (by assumption)
  | exact same_mut (by walk_at "sm") (by assumption))
local macro_rules | `(tactic| walk_at "ex") => `(tactic| first
  | assumption
  | exact Ex.refl _ _
  | exact Ex.new (by walk_at "ex") (by assumption)
  | exact Ex.mut (by walk_at "ex") (by assumption)
  | exact Ex.at (by walk_at "ex"))
local macro_rules | `(tactic| walk_at "sa") => `(tactic| first
  | assumption
  | exact seq' (by assumption) (by walk_at "sm")
  | exact tup' (by assumption) (by walk_at "sm"))
local macro_rules | `(tactic| walk_at "sq") => `(tactic| first
  | assumption
  | exact seq' (by assumption) (by walk_at "sm")
  | exact tup' (by assumption) (by walk_at "sm")
  | exact sql (by walk_at "hp")
  | exact sqt (by walk_at "hp"))
local macro_rules | `(tactic| walk_at "tt") => `(tactic| first | (simp; done) | (simp; omega))
local macro_rules | `(tactic| walk_at "tf") => `(tactic| first
  | ((with_reducible show if _ = true then _ else _); refine i_T (by walk_at "tt") ?_)
  | ((with_reducible show if _ = true then _ else _); refine i_F (by walk_at "tt") ?_))
local macro_rules | `(tactic| walk_at "ix") => `(tactic| first
  | exact ixn (j := 0) (by simp)
  | exact ixn (j := 1) (by simp)
  | exact ixn (j := 2) (by simp)
  | exact ixn (j := 3) (by simp)
  | exact ixn (j := 4) (by simp)
  | exact ixn (j := 5) (by simp)
  | exact ixn (j := 6) (by simp)
  | exact ixn (j := 7) (by simp))
local macro_rules | `(tactic| walk_at "at") => `(tactic| first
  | exact atI_nat (j := 0) (by rfl)
  | exact atI_nat (j := 1) (by rfl)
  | exact atI_nat (j := 2) (by rfl)
  | exact atI_nat (j := 3) (by rfl)
  | exact atI_nat (j := 4) (by rfl)
  | exact atI_nat (j := 5) (by rfl)
  | exact atI_nat (j := 6) (by rfl)
  | exact atI_nat (j := 7) (by rfl))
local macro_rules | `(tactic| walk_at "rd1") => `(tactic| first
  | with_reducible refine c_seq ?_
  | with_reducible refine c_asg ?_
  | ((with_reducible refine c_gname ?_); try dsimp only [List.set])
  | with_reducible refine c_ret ?_
  | with_reducible refine c_ifs ?_
  | ((with_reducible show tVar _ _ _ _); refine c_var (by rfl) ?_)
  | with_reducible refine c_c ?_
  | with_reducible refine c_op ?_
  | with_reducible refine c_un ?_
  | with_reducible refine c_test ?_
  | with_reducible refine c_B ?_
  | with_reducible refine c_CB ?_
  | with_reducible refine c_cons ?_
  | with_reducible refine c_nil ?_
  | with_reducible refine c_call ?_
  | with_reducible refine c_lst ?_
  | with_reducible refine c_tup ?_
  | with_reducible refine c_drop ?_
  | with_reducible refine c_gsub ?_
  | with_reducible refine c_BM ?_
  | with_reducible refine c_BM0 ?_
  | with_reducible refine c_and ?_
  | with_reducible refine c_or ?_
  | with_reducible refine c_not ?_
  | with_reducible refine c_andV ?_
  | with_reducible refine c_orV ?_
  | with_reducible refine c_notV ?_
  | with_reducible refine c_if ?_
  | with_reducible refine c_chain ?_
  | with_reducible refine c_next ?_
  | with_reducible refine c_retN ?_
  | with_reducible refine c_yes ?_
  | ((with_reducible show rIn _ _ (V.bl _) _ _ _); first | refine r_inL (by walk_at "sq") rfl (flat_bl _) ?_ | refine r_inL (by walk_at "sq") rfl (by rfl) ?_)
  | with_reducible refine r_I0 ?_
  | with_reducible refine r_U ?_
  | with_reducible refine r_eqI ?_
  | with_reducible refine r_neI ?_
  | with_reducible refine r_eqB ?_
  | with_reducible refine r_neB ?_
  | with_reducible refine r_eqS ?_
  | with_reducible refine r_neS ?_
  | ((with_reducible show rIxL _ _ (V.int (OfNat.ofNat _)) _ _); refine r_ixL (by walk_at "sq") (by walk_at "at") ?_)
  | ((with_reducible show rIxT _ _ (V.int (OfNat.ofNat _)) _ _); refine r_ixT (by walk_at "sq") (by walk_at "at") ?_)
  | ((with_reducible show rI CMul _ _ _ _ _); refine r_I (by first | exact .inl ⟨by omega, by omega⟩ | exact .inr ⟨by omega, by omega⟩) ?_)
  | ((with_reducible show rI CDiv _ _ _ _ _); refine r_I ⟨by omega, by omega⟩ ?_)
  | ((with_reducible show rI (fun _ _ => _) _ _ _ _ _); refine r_I (by first | assumption | omega | decide) ?_)
  | with_reducible refine r_pow18 ?_
  | with_reducible refine r_pow17 ?_
  | ((with_reducible show rSetL _ _ _ _ _); refine r_setL (by walk_at "hp") (by walk_at "ix") ?_; try dsimp only [List.set]; try simp only [upd_upd])
  | ((with_reducible show tyV _ _ _ _ ∧ _); refine ⟨.inl ⟨rfl, _, by walk_at "sq"⟩, ?_⟩)
  | ((with_reducible show rPop _ _ _ _); refine r_pop (by walk_at "hp") ?_)
  | ((with_reducible show rAppend _ _ _ _); refine r_app (by walk_at "hp") (by first | assumption | exact smallLt (by omega) | exact smallLt (by simp <;> omega)) ?_)
  | ((with_reducible show _ ≤ sizeLine ∧ _); refine ⟨small (by simp), ?_⟩)
  | ((with_reducible show V.non = V.non ∧ _); refine ⟨rfl, ?_⟩)
  | with_reducible refine iteT ?_
  | with_reducible refine iteF ?_
  | with_reducible refine ⟨_, rfl, ?_⟩
  | with_reducible refine ⟨_, _, rfl, ?_⟩
  | with_reducible refine Or.inl ⟨_, rfl, ?_⟩
  | with_reducible refine Or.inr ⟨_, rfl, ?_⟩
  | ((with_reducible show ∃ _ _, [_] = [_] ∧ _); first
    | refine ⟨_, _, rfl, Or.inl (by walk_at "sa"), ?_⟩ | refine ⟨_, _, rfl, Or.inr (by walk_at "sa"), ?_⟩
    | refine ⟨_, _, rfl, Or.inl (by exact sql (by walk_at "hp")), ?_⟩ | refine ⟨_, _, rfl, Or.inr (by exact sqt (by walk_at "hp")), ?_⟩))
local macro_rules | `(tactic| walk_at "nw") => `(tactic| (intro _ _))
local macro_rules | `(tactic| walk_at "rdn") => `(tactic| repeat (first | walk_at "rd1" | ((with_reducible show ∀ _ : Addr, _ = none → _); intro _ _)))
local macro_rules | `(tactic| walk_at "rd") => `(tactic| repeat walk_at "rd1")

def topS (i : Nat) : Stmt := PySem.Challenge.pw_wholepages_k07_comparisons.main.body.getD i (.Pass ⟨0, 0, 0, 0⟩)
abbrev s_compares : Stmt := topS 3
abbrev N_compares : List Str := ["value", "sign", "number"]
theorem sc_compares : FnScope N_compares ["value", "sign", "number"] (defScope s_compares) := ⟨rfl, rfl, rfl, by decide +kernel, rfl, by decide +kernel, by decide +kernel⟩
abbrev s_comparison_truth : Stmt := topS 4
abbrev N_comparison_truth : List Str := ["value", "sign", "number"]
theorem sc_comparison_truth : FnScope N_comparison_truth ["value", "sign", "number"] (defScope s_comparison_truth) := ⟨rfl, rfl, rfl, by decide +kernel, rfl, by decide +kernel, by decide +kernel⟩
abbrev s_truth : Stmt := topS 8
abbrev N_truth : List Str := ["predicate", "row", "word", "truths", "part"]
theorem sc_truth : FnScope N_truth ["predicate", "row"] (defScope s_truth) := ⟨rfl, rfl, rfl, by decide +kernel, rfl, by decide +kernel, by decide +kernel⟩
abbrev s_holds : Stmt := topS 9
abbrev N_holds : List Str := ["predicate", "row"]
theorem sc_holds : FnScope N_holds ["predicate", "row"] (defScope s_holds) := ⟨rfl, rfl, rfl, by decide +kernel, rfl, by decide +kernel, by decide +kernel⟩
abbrev s__law_stream : Stmt := topS 11
abbrev N__law_stream : List Str := ["_law_script"]
theorem sc__law_stream : FnScope N__law_stream ["_law_script"] (defScope s__law_stream) := ⟨rfl, rfl, rfl, by decide +kernel, rfl, by decide +kernel, by decide +kernel⟩
abbrev s__law_draw : Stmt := topS 12
abbrev N__law_draw : List Str := ["_law_stream_here", "_law_many", "_law_place", "_law_cell", "_law_number_here"]
theorem sc__law_draw : FnScope N__law_draw ["_law_stream_here", "_law_many"] (defScope s__law_draw) := ⟨rfl, rfl, rfl, by decide +kernel, rfl, by decide +kernel, by decide +kernel⟩
abbrev s__law_number : Stmt := topS 13
abbrev N__law_number : List Str := ["_law_stream_here", "_law_most", "_law_kind"]
theorem sc__law_number : FnScope N__law_number ["_law_stream_here", "_law_most"] (defScope s__law_number) := ⟨rfl, rfl, rfl, by decide +kernel, rfl, by decide +kernel, by decide +kernel⟩
abbrev s__law_pool : Stmt := topS 14
abbrev N__law_pool : List Str := ["_law_stream_here", "_law_wide", "_law_pool_here", "_law_c", "_law_numbers", "_law_k"]
theorem sc__law_pool : FnScope N__law_pool ["_law_stream_here", "_law_wide"] (defScope s__law_pool) := ⟨rfl, rfl, rfl, by decide +kernel, rfl, by decide +kernel, by decide +kernel⟩
abbrev s__law_row : Stmt := topS 15
abbrev N__law_row : List Str := ["_law_stream_here", "_law_pool_here", "_law_row_here", "_law_numbers", "_law_kind"]
theorem sc__law_row : FnScope N__law_row ["_law_stream_here", "_law_pool_here"] (defScope s__law_row) := ⟨rfl, rfl, rfl, by decide +kernel, rfl, by decide +kernel, by decide +kernel⟩
abbrev s__law_compared : Stmt := topS 16
abbrev N__law_compared : List Str := ["_law_sign", "_law_value", "_law_number_here"]
theorem sc__law_compared : FnScope N__law_compared ["_law_sign", "_law_value", "_law_number_here"] (defScope s__law_compared) := ⟨rfl, rfl, rfl, by decide +kernel, rfl, by decide +kernel, by decide +kernel⟩
abbrev s__law_alike : Stmt := topS 17
abbrev N__law_alike : List Str := ["_law_told", "_law_due", "_law_left", "_law_k", "_law_pair", "_law_one", "_law_two", "_law_at"]
theorem sc__law_alike : FnScope N__law_alike ["_law_told", "_law_due"] (defScope s__law_alike) := ⟨rfl, rfl, rfl, by decide +kernel, rfl, by decide +kernel, by decide +kernel⟩
abbrev s__law_truth_right : Stmt := topS 18
abbrev N__law_truth_right : List Str := ["_law_predicate", "_law_row_here", "_law_due"]
theorem sc__law_truth_right : FnScope N__law_truth_right ["_law_predicate", "_law_row_here", "_law_due"] (defScope s__law_truth_right) := ⟨rfl, rfl, rfl, by decide +kernel, rfl, by decide +kernel, by decide +kernel⟩
abbrev s_law : Stmt := topS 19
abbrev N_law : List Str := ["_law_script", "_law_stream_here", "_law_wide", "_law_pool_here", "_law_row_here", "_law_handed", "_law_c", "_law_number_here", "_law_sign"]
theorem sc_law : FnScope N_law ["_law_script"] (defScope s_law) := ⟨rfl, rfl, rfl, by decide +kernel, rfl, by decide +kernel, by decide +kernel⟩
structure Txt (K : PySem.W.Frag) (mg : Str → Option Value) : Type where
  a_compares : Addr
  d_compares : FuncData
  F_compares : Fun K "compares" "compares" s_compares a_compares d_compares
  b_compares : Binds K d_compares ["value", "sign", "number"] []
  g_compares : mg "compares" = some (.ref a_compares)
  a_comparison_truth : Addr
  d_comparison_truth : FuncData
  F_comparison_truth : Fun K "comparison_truth" "comparison_truth" s_comparison_truth a_comparison_truth d_comparison_truth
  b_comparison_truth : Binds K d_comparison_truth ["value", "sign", "number"] []
  g_comparison_truth : mg "comparison_truth" = some (.ref a_comparison_truth)
  a_truth : Addr
  d_truth : FuncData
  F_truth : Fun K "truth" "truth" s_truth a_truth d_truth
  b_truth : Binds K d_truth ["predicate", "row"] []
  g_truth : mg "truth" = some (.ref a_truth)
  a_holds : Addr
  d_holds : FuncData
  F_holds : Fun K "holds" "holds" s_holds a_holds d_holds
  b_holds : Binds K d_holds ["predicate", "row"] []
  g_holds : mg "holds" = some (.ref a_holds)
  a_stream : Addr
  d_stream : FuncData
  F_stream : Fun K "_law_stream" "_law_stream" s__law_stream a_stream d_stream
  b_stream : Binds K d_stream ["_law_script"] []
  g_stream : mg "_law_stream" = some (.ref a_stream)
  a_draw : Addr
  d_draw : FuncData
  F_draw : Fun K "_law_draw" "_law_draw" s__law_draw a_draw d_draw
  b_draw : Binds K d_draw ["_law_stream_here", "_law_many"] []
  g_draw : mg "_law_draw" = some (.ref a_draw)
  a_number : Addr
  d_number : FuncData
  F_number : Fun K "_law_number" "_law_number" s__law_number a_number d_number
  b_number : Binds K d_number ["_law_stream_here", "_law_most"] []
  g_number : mg "_law_number" = some (.ref a_number)
  a_pool : Addr
  d_pool : FuncData
  F_pool : Fun K "_law_pool" "_law_pool" s__law_pool a_pool d_pool
  b_pool : Binds K d_pool ["_law_stream_here", "_law_wide"] []
  g_pool : mg "_law_pool" = some (.ref a_pool)
  a_row : Addr
  d_row : FuncData
  F_row : Fun K "_law_row" "_law_row" s__law_row a_row d_row
  b_row : Binds K d_row ["_law_stream_here", "_law_pool_here"] []
  g_row : mg "_law_row" = some (.ref a_row)
  a_compared : Addr
  d_compared : FuncData
  F_compared : Fun K "_law_compared" "_law_compared" s__law_compared a_compared d_compared
  b_compared : Binds K d_compared ["_law_sign", "_law_value", "_law_number_here"] []
  g_compared : mg "_law_compared" = some (.ref a_compared)
  a_alike : Addr
  d_alike : FuncData
  F_alike : Fun K "_law_alike" "_law_alike" s__law_alike a_alike d_alike
  b_alike : Binds K d_alike ["_law_told", "_law_due"] []
  g_alike : mg "_law_alike" = some (.ref a_alike)
  a_truth_right : Addr
  d_truth_right : FuncData
  F_truth_right : Fun K "_law_truth_right" "_law_truth_right" s__law_truth_right a_truth_right d_truth_right
  b_truth_right : Binds K d_truth_right ["_law_predicate", "_law_row_here", "_law_due"] []
  g_truth_right : mg "_law_truth_right" = some (.ref a_truth_right)
  c_SIGNS : Addr
  g_SIGNS : mg "SIGNS" = some (.ref c_SIGNS)
  l_SIGNS : ∀ H : Hp, SqT K H c_SIGNS [.str "<", .str "<=", .str "=", .str "!=", .str ">=", .str ">"]
  z_abs : mg "abs" = none
  z_bool : mg "bool" = none
  z_int : mg "int" = none
  z_isinstance : mg "isinstance" = none
  z_len : mg "len" = none
  z_list : mg "list" = none
  z_range : mg "range" = none
  z_str : mg "str" = none
  z_tuple : mg "tuple" = none
/-! ### the law's stream of numbers -/
/-- at S the law's stream: the copy of the script at L, a place, a number, how many draws it still gives -/
structure Strm (S L : Addr) (ns : List Int) (H : Hp) : Prop where
  at_ : ∃ (p : Nat) (n k : Int), H S = some (.lst [.ref L, .int p, .int n, .int k]) ∧ p ≤ ns.length ∧ 0 ≤ n ∧ 0 ≤ k
  lst : H L = some (.lst (ns.map V.int))
  ne : L ≠ S
  len : ns.length ≤ 63
theorem strm_at {S L : Addr} {ns : List Int} {H : Hp} {q n c : Int} (eL : H L = some (.lst (ns.map V.int))) (ne : L ≠ S) (hl : ns.length ≤ 63) (h0 : 0 ≤ q) (h1 : q ≤ ns.length) (hn : 0 ≤ n) (hc : 0 ≤ c) : Strm S L ns (upd H S (.lst [.ref L, .int q, .int n, .int c])) :=
  ⟨⟨q.toNat, n, c, by rw [upd_same, Int.toNat_of_nonneg h0], by omega, hn, hc⟩, by rw [upd_ne ne]; exact eL, ne, hl⟩
theorem Strm.new {S L : Addr} {ns : List Int} {H : Hp} {p : Addr} {o : HO} (s : Strm S L ns H) (h : H p = none) : Strm S L ns (upd H p o) := by
  obtain ⟨⟨a, b, c, e, z⟩, l, n, q⟩ := s
  exact ⟨⟨a, b, c, by rw [upd_ne (ne_of_none e h)]; exact e, z⟩, by rw [upd_ne (ne_of_none l h)]; exact l, n, q⟩
theorem Strm.upd {S L : Addr} {ns : List Int} {H : Hp} {p : Addr} {o : HO} (s : Strm S L ns H) (h1 : p ≠ S) (h2 : p ≠ L) : Strm S L ns (upd H p o) := by
  obtain ⟨⟨a, b, c, e, z⟩, l, n, q⟩ := s
  exact ⟨⟨a, b, c, by rw [upd_ne h1.symm]; exact e, z⟩, by rw [upd_ne h2.symm]; exact l, n, q⟩
theorem Strm.same {S L : Addr} {ns : List Int} {H H' : Hp} (s : Strm S L ns H) (h : Same H H') : Strm S L ns H' := by
  obtain ⟨⟨a, b, c, e, z⟩, l, n, q⟩ := s
  exact ⟨⟨a, b, c, h _ _ e, z⟩, h _ _ l, n, q⟩
theorem Strm.neS {S L : Addr} {ns : List Int} {H : Hp} {p : Addr} (s : Strm S L ns H) (h : H p = none) : p ≠ S := by
  obtain ⟨⟨a, b, c, e, z⟩, l, n, q⟩ := s
  exact (ne_of_none e h).symm
theorem Strm.neL {S L : Addr} {ns : List Int} {H : Hp} {p : Addr} (s : Strm S L ns H) (h : H p = none) : p ≠ L := by
  obtain ⟨⟨a, b, c, e, z⟩, l, n, q⟩ := s
  exact (ne_of_none l h).symm
def spStream (K : PySem.W.Frag) : Sp := fun vs H Q _ => ∃ (a : Addr) (ns : List Int), vs = [.ref a] ∧ SqL K H a (ns.map V.int) ∧ ns.length ≤ 63 ∧ ∀ S L H', H S = none → Same H H' → Strm S L ns H' → Q (.ref S) H'
def spDraw : Sp := fun vs H Q _ => ∃ (S L : Addr) (ns : List Int) (m : Int), vs = [.ref S, .int m] ∧ Strm S L ns H ∧ 0 < m ∧ m.natAbs < 2 ^ 200 ∧ ∀ r H', 0 ≤ r → r < m → Ex S H H' → Strm S L ns H' → Q (.int r) H'
theorem use_draw {S L : Addr} {ns : List Int} {m : Int} {H : Hp} {Q : VK} {E : XK} (s : Strm S L ns H) (h0 : 0 < m) (h1 : m < 10 ^ 40) (k : ∀ r H', 0 ≤ r → r < m → Ex S H H' → Strm S L ns H' → Q (.int r) H') : spDraw [.ref S, .int m] H Q E :=
  ⟨S, L, ns, m, rfl, s, h0, by omega, k⟩
section
variable {P : Program} {w : World} {K : PySem.W.Frag} {mg : Str → Option Value} {base : Heap}
theorem ok_stream (T : Txt K mg) : FnOk P w K mg base CX0 1 T.a_stream T.d_stream ["_law_script"] (spStream K) := by
  refine T.F_stream.ok sc__law_stream (fun vs H Q E h => ?_) (fun cdv A outer s H vs Q E hr h => ⟨_, (pss_one (ps_ret (pe_lst (pa_cons (pe_callTy call_list_of (by rfl) T.z_list (by decide +kernel) (pa_cons (pv 0) pa_nil)) (pa_cons pe_int (pa_cons pe_int (pa_cons pe_int pa_nil))))))), ?_⟩)
  · first | (obtain ⟨rfl, _⟩ := h; rfl) | (obtain ⟨_, rfl, _⟩ := h; rfl) | (obtain ⟨_, _, rfl, _⟩ := h; rfl) | (obtain ⟨_, _, _, rfl, _⟩ := h; rfl) | (obtain ⟨_, _, _, _, rfl, _⟩ := h; rfl) | (obtain ⟨_, _, _, _, _, rfl, _⟩ := h; rfl) | (obtain ⟨_, _, _, _, _, _, rfl, _⟩ := h; rfl) | (obtain ⟨_, _, _, _, _, _, _, rfl, _⟩ := h; rfl) | (obtain ⟨_, _, _, _, _, _, _, _, rfl, _⟩ := h; rfl) | (obtain ⟨_, _, _, _, _, _, _, _, _, rfl, _⟩ := h; rfl)
  · obtain ⟨a, ns, rfl, hS, hl, k⟩ := h
    try dsimp only [cxOf, Cx.nox, Cx.wish]
    refine st_of (σ := [some _]) rfl ?_
    walk_at "rd"
    intro L hL
    walk_at "rd"
    intro S hs
    have hs' : H S = none := by
      by_cases e : S = L
      · rw [e, upd_same] at hs
        cases hs
      · rw [upd_ne e] at hs
        exact hs
    refine k S L _ hs' (by walk_at "sm") ⟨⟨0, 0, 0, upd_same, Nat.zero_le _, Int.le_refl _, Int.le_refl _⟩, ?_, ?_, hl⟩
    · have e : L ≠ S := ne_of_none upd_same hs
      rw [upd_ne e]
      exact upd_same
    · exact ne_of_none upd_same hs
theorem ok_draw (T : Txt K mg) : FnOk P w K mg base CX0 1 T.a_draw T.d_draw ["_law_stream_here", "_law_many"] (spDraw) := by
  refine T.F_draw.ok sc__law_draw (fun vs H Q E h => ?_) (fun cdv A outer s H vs Q E hr h => ⟨_, (Evl.pss_cut (ps_if (PW.pt (pw_and (PW.pt (pw_or (pt_cmpR op_eq (pe_ix ix_list (pv 0) pe_int (fun _ _ => rfl)) pe_int (nomark _)) (pw_or1 (pt_cmpR op_eq (pe_ix ix_list (pv 0) pe_int (fun _ _ => rfl)) pe_int (nomark _))))) (pw_and1 (pt_cmpR op_lt (pe_ix ix_list (pv 0) pe_int (fun _ _ => rfl)) (pe_callB call_len_seq (by rfl) T.z_len PySem.boot_len (pa_cons (pe_ix ix_list (pv 0) pe_int (fun _ _ => rfl)) pa_nil)) (nomark _)))))
      (pss_cons (ps_set (i := 2) sc__law_draw.nd rfl (.inl rfl) (pe_ix ix_list (pv 0) pe_int (fun _ _ => rfl)))
      (pss_cons (ps_set (i := 3) sc__law_draw.nd rfl (.inl rfl) (pe_ix ix_list (pe_ix ix_list (pv 0) pe_int (fun _ _ => rfl)) (pv 2) (fun _ _ => rfl)))
      (pss_cons (ps_set (i := 4) sc__law_draw.nd rfl (.inl rfl) (pe_op op_add (pe_op op_mul pe_int (pe_callB call_abs (by rfl) T.z_abs (by decide +kernel) (pa_cons (pv 3) pa_nil))) (pe_callTy call_int1 (by rfl) T.z_int (by decide +kernel) (pa_cons (pe_cmpR op_lt (pv 3) pe_int (nomark _)) pa_nil))))
      (pss_cons (ps_if (pt_cmpR op_lt (pv 4) (pe_op op_mul pe_int (pe_op op_pow pe_int pe_int)) (nomark _))
      (pss_cons (ps_set (i := 4) sc__law_draw.nd rfl (.inl rfl) (pe_op op_mod (pe_callTy call_int1 (by rfl) T.z_int (by decide +kernel) (pa_cons (pe_op op_add (pe_op op_mul (pv 4) pe_int) (pe_op op_mul (pe_op op_add (pe_op op_mul (pv 2) (pv 2)) pe_int) pe_int)) pa_nil)) pe_int))
      (pss_one (ps_set (i := 4) sc__law_draw.nd rfl (.inl rfl) (pe_op op_mod (pe_callTy call_int1 (by rfl) T.z_int (by decide +kernel) (pa_cons (pe_op op_add (pe_op op_add (pe_op op_mul (pe_op op_mul (pv 4) (pv 4)) pe_int) (pe_op op_mul (pv 4) pe_int)) pe_int) pa_nil)) pe_int))))
      pss_nil)
      (pss_cons (ps_asg (pe_op op_add (pv 2) pe_int) (pg_sub (pv 0) pe_int set_list))
      (pss_cons (ps_asg (pv 4) (pg_sub (pv 0) pe_int set_list))
      (pss_one (ps_asg pe_int (pg_sub (pv 0) pe_int set_list)))))))))
      pss_nil)
      (pss_cons (ps_if (pt_cmpR op_eq (pe_ix ix_list (pv 0) pe_int (fun _ _ => rfl)) pe_int (nomark _))
      (pss_one (ps_ret pe_int))
      pss_nil)
      (pss_cons (ps_set (i := 4) sc__law_draw.nd rfl (.inl rfl) (pe_ix ix_list (pv 0) pe_int (fun _ _ => rfl)))
      (pss_cons (ps_asg (pe_op op_fdivW (pv 4) (pv 1)) (pg_sub (pv 0) pe_int set_list))
      (pss_cons (ps_asg (pe_op op_sub (pe_ix ix_list (pv 0) pe_int (fun _ _ => rfl)) pe_int) (pg_sub (pv 0) pe_int set_list))
      (pss_one (ps_ret (pe_op op_mod (pe_callTy call_int1 (by rfl) T.z_int (by decide +kernel) (pa_cons (pv 4) pa_nil)) (pv 1))))))))), ?_⟩)
  · first | (obtain ⟨rfl, _⟩ := h; rfl) | (obtain ⟨_, rfl, _⟩ := h; rfl) | (obtain ⟨_, _, rfl, _⟩ := h; rfl) | (obtain ⟨_, _, _, rfl, _⟩ := h; rfl) | (obtain ⟨_, _, _, _, rfl, _⟩ := h; rfl) | (obtain ⟨_, _, _, _, _, rfl, _⟩ := h; rfl) | (obtain ⟨_, _, _, _, _, _, rfl, _⟩ := h; rfl) | (obtain ⟨_, _, _, _, _, _, _, rfl, _⟩ := h; rfl) | (obtain ⟨_, _, _, _, _, _, _, _, rfl, _⟩ := h; rfl) | (obtain ⟨_, _, _, _, _, _, _, _, _, rfl, _⟩ := h; rfl)
  · obtain ⟨S, L, ns, m, rfl, hS, h0, h1, k⟩ := h
    try dsimp only [cxOf, Cx.nox, Cx.wish]
    refine st_of (σ := [some _, some _, none, none, none]) rfl ?_
    obtain ⟨⟨p, n, c, eS, hp, hn, hc⟩, eL, ne, hl⟩ := hS
    have hm : CDivW n m := wide_div h0 h1 (by decide) (by decide)
    refine ⟨fun σ' H' => ∃ x y z, σ' = [some (.ref S), some (.int m), x, y, z] ∧ Ex S H H' ∧ Strm S L ns H', ?_, ?_⟩
    · walk_at "rd"
      have key : ∀ H', Ex S H H' → Strm S L ns H' → (∃ x y z, [some (V.ref S), some (V.int m), none, none, none] = [some (V.ref S), some (V.int m), x, y, z] ∧ Ex S H H' ∧ Strm S L ns H') := fun H' a b => ⟨_, _, _, rfl, a, b⟩
      refine i_d (p := n = 0) (fun hz => ?_) (fun hz => ?_)
      · walk_at "rd"
        refine i_d (fun hl2 => ?_) (fun hl2 => ?_)
        · rw [List.length_map] at hl2
          have hlt : p < ns.length := by omega
          walk_at "rd"
          refine r_ixL (sql eL) (atI_nat (map_at hlt)) ?_
          generalize ns[p] = z
          walk_at "rd"
          refine i_d (fun hb => ?_) (fun hb => ?_)
          · walk_at "rd"
            exact ⟨_, _, _, rfl, Ex.at (Ex.refl _ _), strm_at eL ne hl (by omega) (by omega) (Int.emod_nonneg _ (by decide)) (by decide)⟩
          · walk_at "rd"
            exact ⟨_, _, _, rfl, Ex.at (Ex.refl _ _), strm_at eL ne hl (by omega) (by omega) (by split <;> split <;> omega) (by decide)⟩
        · walk_at "rd"
          exact key H (Ex.refl _ _) ⟨⟨p, n, c, eS, hp, hn, hc⟩, eL, ne, hl⟩
      · walk_at "rd"
        refine i_d (p := c = 0) (fun hz => ?_) (fun hz => ?_)
        · walk_at "rd"
          refine i_d (fun hl2 => ?_) (fun hl2 => ?_)
          · rw [List.length_map] at hl2
            have hlt : p < ns.length := by omega
            walk_at "rd"
            refine r_ixL (sql eL) (atI_nat (map_at hlt)) ?_
            generalize ns[p] = z
            walk_at "rd"
            refine i_d (fun hb => ?_) (fun hb => ?_)
            · walk_at "rd"
              exact ⟨_, _, _, rfl, Ex.at (Ex.refl _ _), strm_at eL ne hl (by omega) (by omega) (Int.emod_nonneg _ (by decide)) (by decide)⟩
            · walk_at "rd"
              exact ⟨_, _, _, rfl, Ex.at (Ex.refl _ _), strm_at eL ne hl (by omega) (by omega) (by split <;> split <;> omega) (by decide)⟩
          · walk_at "rd"
            exact key H (Ex.refl _ _) ⟨⟨p, n, c, eS, hp, hn, hc⟩, eL, ne, hl⟩
        · walk_at "rd"
          exact key H (Ex.refl _ _) ⟨⟨p, n, c, eS, hp, hn, hc⟩, eL, ne, hl⟩
    · rintro σ' H' ⟨x, y, z, rfl, ex, ⟨⟨p, n, c, eS, hp, hn, hc⟩, eL, ne, hl⟩⟩
      have hm : CDivW n m := wide_div h0 h1 (by decide) (by decide)
      walk_at "rd"
      refine i_d (p := c = 0) (fun hz => ?_) (fun hz => ?_)
      · walk_at "rd"
        exact k 0 H' (Int.le_refl _) h0 ex ⟨⟨p, n, c, eS, hp, hn, hc⟩, eL, ne, hl⟩
      · walk_at "rd"
        exact k _ _ (Int.emod_nonneg _ (by omega)) (Int.emod_lt_of_pos _ h0) (Ex.at ex) (strm_at eL ne hl (by omega) (by omega) (Int.ediv_nonneg hn (by omega)) (by omega))
end

/-! ### what is alike -/
mutual
/-- x and y are alike in H; n: how many looks that takes -/
inductive Al (K : PySem.W.Frag) (H : Hp) : V → V → Nat → Prop where
  | non : Al K H .non .non 1
  | bl (b : Bool) : Al K H (.bl b) (.bl b) 1
  | int (i : Int) : Al K H (.int i) (.int i) 1
  | str (s : Str) : Al K H (.str s) (.str s) 1
  | lst {a b : Addr} {xs ys : List V} {n : Nat} (h1 : SqL K H a xs) (h2 : SqL K H b ys) (h : Als K H xs ys n) : Al K H (.ref a) (.ref b) (n + 1)
  | tup {a b : Addr} {xs ys : List V} {n : Nat} (h1 : SqT K H a xs) (h2 : SqT K H b ys) (h : Als K H xs ys n) : Al K H (.ref a) (.ref b) (n + 1)
inductive Als (K : PySem.W.Frag) (H : Hp) : List V → List V → Nat → Prop where
  | nil : Als K H [] [] 0
  | cons {x y : V} {xs ys : List V} {n m : Nat} (h : Al K H x y n) (t : Als K H xs ys m) : Als K H (x :: xs) (y :: ys) (n + m)
end
section
variable {K : PySem.W.Frag} {H H' : Hp}
theorem Al.same {x y : V} {n : Nat} (h : Al K H x y n) (e : Same H H') : Al K H' x y n :=
  h.rec (motive_1 := fun x y n _ => Al K H' x y n) (motive_2 := fun xs ys n _ => Als K H' xs ys n) .non .bl .int .str (fun h1 h2 _ ih => .lst (e.seq h1) (e.seq h2) ih) (fun h1 h2 _ ih => .tup (same_tup e h1) (same_tup e h2) ih) .nil (fun _ _ a b => .cons a b)
theorem Als.same {xs ys : List V} {n : Nat} (h : Als K H xs ys n) (e : Same H H') : Als K H' xs ys n :=
  h.rec (motive_1 := fun x y n _ => Al K H' x y n) (motive_2 := fun xs ys n _ => Als K H' xs ys n) .non .bl .int .str (fun h1 h2 _ ih => .lst (e.seq h1) (e.seq h2) ih) (fun h1 h2 _ ih => .tup (same_tup e h1) (same_tup e h2) ih) .nil (fun _ _ a b => .cons a b)
theorem Als.len {xs ys : List V} {n : Nat} (h : Als K H xs ys n) : xs.length = ys.length :=
  h.rec (motive_1 := fun _ _ _ _ => True) (motive_2 := fun xs ys _ _ => xs.length = ys.length) trivial (fun _ => trivial) (fun _ => trivial) (fun _ => trivial) (fun _ _ _ _ => trivial) (fun _ _ _ _ => trivial) rfl (fun _ _ _ b => congrArg (· + 1) b)
theorem Als.app {xs ys us ws : List V} {n m : Nat} (h : Als K H xs ys n) (g : Als K H us ws m) : Als K H (xs ++ us) (ys ++ ws) (n + m) :=
  h.rec (motive_1 := fun _ _ _ _ => True) (motive_2 := fun xs ys n _ => Als K H (xs ++ us) (ys ++ ws) (n + m)) trivial (fun _ => trivial) (fun _ => trivial) (fun _ => trivial) (fun _ _ _ _ => trivial) (fun _ _ _ _ => trivial)
    (by rw [Nat.zero_add]; exact g) (fun a _ _ b => by rw [Nat.add_assoc]; exact .cons a b)
theorem Als.last {xs ys : List V} {x y : V} : ∀ {n : Nat}, Als K H (xs ++ [x]) (ys ++ [y]) n → xs.length = ys.length → ∃ m k, n = m + k ∧ Als K H xs ys m ∧ Al K H x y k := by
  induction xs generalizing ys with
  | nil =>
    intro n h hl
    cases ys with
    | cons _ _ => cases hl
    | nil =>
      cases h with
      | cons a t =>
        cases t
        exact ⟨0, _, by omega, .nil, a⟩
  | cons u us ih =>
    intro n h hl
    cases ys with
    | nil => cases hl
    | cons w ws =>
      cases h with
      | cons a t =>
        obtain ⟨m, k, e, t', l⟩ := ih t (by simpa using hl)
        exact ⟨_, k, by rw [e, Nat.add_assoc], .cons a t', l⟩
theorem Al.posI {x y : V} {n : Nat} (h : Al K H x y n) : 0 < n := by
  cases h <;> omega
theorem Als.le {xs ys : List V} {n : Nat} (h : Als K H xs ys n) : ys.length ≤ n :=
  h.rec (motive_1 := fun _ _ n _ => 0 < n) (motive_2 := fun _ ys n _ => ys.length ≤ n) (by decide) (fun _ => by decide) (fun _ => by decide) (fun _ => by decide) (fun _ _ _ _ => Nat.succ_pos _) (fun _ _ _ _ => Nat.succ_pos _) (Nat.le_refl _)
    (fun _ _ a b => by rw [List.length_cons]; omega)
theorem Al.pos {x y : V} {n : Nat} (h : Al K H x y n) : 0 < n := by
  cases h <;> omega
theorem Als.get {xs ys : List V} : ∀ {n : Nat} (i : Nat), Als K H xs ys n → i < xs.length → ∃ x y, xs[i]? = some x ∧ ys[i]? = some y := by
  intro n i h hi
  have e := h.len
  exact ⟨xs[i], ys[i]'(by omega), List.getElem?_eq_getElem hi, List.getElem?_eq_getElem (by omega)⟩
theorem Als.ints : ∀ ns : List Int, Als K H (ns.map V.int) (ns.map V.int) ns.length
  | [] => .nil
  | n :: r => by
    rw [List.length_cons, Nat.add_comm]
    exact .cons (.int n) (Als.ints r)
theorem Als.bls : ∀ ns : List Bool, Als K H (ns.map V.bl) (ns.map V.bl) ns.length
  | [] => .nil
  | n :: r => by
    rw [List.length_cons, Nat.add_comm]
    exact .cons (.bl n) (Als.bls r)
/-- the pairs that stand on the stack at l -/
inductive Prs (l : Addr) (H : Hp) : List V → List V → List V → Prop where
  | nil : Prs l H [] [] []
  | cons {p : Addr} {x y : V} {vs xs ys : List V} (h : H p = some (.lst [x, y])) (n : p ≠ l) (t : Prs l H vs xs ys) : Prs l H (.ref p :: vs) (x :: xs) (y :: ys)
theorem Prs.keep {l : Addr} {vs xs ys : List V} (h : Prs l H vs xs ys) (e : ∀ p o, p ≠ l → H p = some o → H' p = some o) : Prs l H' vs xs ys := by
  induction h with
  | nil => exact .nil
  | cons h n _ ih => exact .cons (e _ _ n h) n ih
theorem Prs.len {l : Addr} {vs xs ys : List V} (h : Prs l H vs xs ys) : vs.length = xs.length ∧ xs.length = ys.length := by
  induction h with
  | nil => exact ⟨rfl, rfl⟩
  | cons h n _ ih => exact ⟨congrArg (· + 1) ih.1, congrArg (· + 1) ih.2⟩
theorem Prs.app {l p : Addr} {x y : V} {vs xs ys : List V} (h : Prs l H vs xs ys) (hp : H p = some (.lst [x, y])) (n : p ≠ l) : Prs l H (vs ++ [.ref p]) (xs ++ [x]) (ys ++ [y]) := by
  induction h with
  | nil => exact .cons hp n .nil
  | cons h m _ ih => exact .cons h m ih
theorem Prs.last {l : Addr} {v x y : V} : ∀ {vs xs ys : List V}, Prs l H (vs ++ [v]) (xs ++ [x]) (ys ++ [y]) → vs.length = xs.length → xs.length = ys.length → ∃ p, v = .ref p ∧ H p = some (.lst [x, y]) ∧ p ≠ l ∧ Prs l H vs xs ys := by
  intro vs
  induction vs with
  | nil =>
    intro xs ys h h1 h2
    cases xs with
    | cons _ _ => cases h1
    | nil =>
      cases ys with
      | cons _ _ => cases h2
      | nil =>
        cases h with
        | cons h n t => exact ⟨_, rfl, h, n, .nil⟩
  | cons w ws ih =>
    intro xs ys h h1 h2
    cases xs with
    | nil => cases h1
    | cons u us =>
      cases ys with
      | nil => cases h2
      | cons z zs =>
        cases h with
        | cons h n t =>
          obtain ⟨p, e, hp, n', t'⟩ := ih t (by simpa using h1) (by simpa using h2)
          exact ⟨p, e, hp, n', .cons h n t'⟩
theorem snoc {l : List V} (h : l.length ≠ 0) : ∃ r v, l = r ++ [v] := by
  rcases List.eq_nil_or_concat l with e | ⟨r, v, e⟩
  · subst e
    exact absurd rfl h
  · exact ⟨r, v, by simpa using e⟩
/-! isinstance -/
theorem ty_lst {a : Addr} {xs : List V} (h : SqL K H a xs) : TyX K H (.ref a) (.type "list") := by
  rcases h with (h | ⟨o, h⟩) | ⟨o, _, _, h, c, _⟩
  · exact .base (.lst h)
  · exact .base (.frz h)
  · exact .kList h c
theorem ty_tup {a : Addr} {xs : List V} (h : SqT K H a xs) : TyX K H (.ref a) (.type "tuple") := by
  rcases h with (h | ⟨o, h⟩) | ⟨o, _, _, h, c, _⟩
  · exact .base (.tup h)
  · exact .fTuple h
  · exact .kTuple h c
theorem kit2 {t : String} {b : Bool} (h1 : kitB t "list" = some b) (h2 : b = true ∨ kitB t "tuple" = some false) : PySem.W.kitAny K (.type t) [.type "list", .type "tuple"] = some b := by
  refine kitAny_cons (kit_ty h1) (fun e => ?_) (fun e => e)
  subst e
  rcases h2 with h | h
  · cases h
  · exact kitAny_cons (kit_ty h) (fun _ => rfl) (fun e => e)
theorem kit2t {t : String} (h1 : kitB t "list" = some false) (h2 : kitB t "tuple" = some true) : PySem.W.kitAny K (.type t) [.type "list", .type "tuple"] = some true :=
  kitAny_cons (kit_ty h1) (fun _ => kitAny_cons (kit_ty h2) (fun e => nomatch e) (fun e => e)) (fun e => nomatch e)
theorem r_isi2 {x : V} {tp : Addr} {t : Value} {b : Bool} {Q : VK} (hT : H tp = some (.tup [.ty "list", .ty "tuple"])) (ty : TyX K H x t) (e : PySem.W.kitAny K t [.type "list", .type "tuple"] = some b) (q : Q (.bl b) H) : rIsiT K [x, .ref tp] H Q :=
  ⟨x, tp, _, t, _, b, rfl, hT, .cons (.ty _) (.cons (.ty _) .nil), ty, e, q⟩
theorem r_isi {x : V} {t c : String} {b : Bool} {Q : VK} (ty : TyX K H x (.type t)) (e : kitB t c = some b) (q : Q (.bl b) H) : rIsi K [x, .ty c] H Q :=
  ⟨x, _, _, _, b, rfl, .ty _, ty, kit_ty e, q⟩
theorem two_lst {x : V} {tp a : Addr} {xs : List V} {Q : VK} (hT : H tp = some (.tup [.ty "list", .ty "tuple"])) (h : SqL K H a xs) (q : Q (.bl true) H) : rIsiT K [.ref a, .ref tp] H Q := r_isi2 hT (ty_lst h) (kit2 (by decide +kernel) (.inl rfl)) q
theorem two_tup {x : V} {tp a : Addr} {xs : List V} {Q : VK} (hT : H tp = some (.tup [.ty "list", .ty "tuple"])) (h : SqT K H a xs) (q : Q (.bl true) H) : rIsiT K [.ref a, .ref tp] H Q := r_isi2 hT (ty_tup h) (kit2t (by decide +kernel) (by decide +kernel)) q
theorem two_non {tp : Addr} {Q : VK} (hT : H tp = some (.tup [.ty "list", .ty "tuple"])) (q : Q (.bl false) H) : rIsiT K [.non, .ref tp] H Q := r_isi2 hT (.base .non) (kit2 (by decide +kernel) (.inr (by decide +kernel))) q
theorem two_bl {tp : Addr} {b : Bool} {Q : VK} (hT : H tp = some (.tup [.ty "list", .ty "tuple"])) (q : Q (.bl false) H) : rIsiT K [.bl b, .ref tp] H Q := r_isi2 hT (.base (.bl b)) (kit2 (by decide +kernel) (.inr (by decide +kernel))) q
theorem two_int {tp : Addr} {b : Int} {Q : VK} (hT : H tp = some (.tup [.ty "list", .ty "tuple"])) (q : Q (.bl false) H) : rIsiT K [.int b, .ref tp] H Q := r_isi2 hT (.base (.int b)) (kit2 (by decide +kernel) (.inr (by decide +kernel))) q
theorem two_str {tp : Addr} {b : Str} {Q : VK} (hT : H tp = some (.tup [.ty "list", .ty "tuple"])) (q : Q (.bl false) H) : rIsiT K [.str b, .ref tp] H Q := r_isi2 hT (.base (.str b)) (kit2 (by decide +kernel) (.inr (by decide +kernel))) q
end
def spAlike (K : PySem.W.Frag) : Sp := fun vs H Q _ => ∃ (x y : V) (n : Nat), vs = [x, y] ∧ Al K H x y n ∧ n < 6000 ∧ ∀ H', Same H H' → Q (.bl true) H'
theorem use_alike {K : PySem.W.Frag} {x y : V} {n : Nat} {H : Hp} {Q : VK} {E : XK} (h : Al K H x y n) (hn : n < 6000) (k : ∀ H', Same H H' → Q (.bl true) H') : spAlike K [x, y] H Q E := ⟨x, y, n, rfl, h, hn, k⟩
section
variable {P : Program} {w : World} {K : PySem.W.Frag} {mg : Str → Option Value} {base : Heap}
local macro_rules | `(tactic| walk_at "isi") => `(tactic| first
  | ((with_reducible show rIsiT _ [V.non, _] _ _); refine two_non (by walk_at "hp") ?_)
  | ((with_reducible show rIsiT _ [V.bl _, _] _ _); refine two_bl (by walk_at "hp") ?_)
  | ((with_reducible show rIsiT _ [V.int _, _] _ _); refine two_int (by walk_at "hp") ?_)
  | ((with_reducible show rIsiT _ [V.str _, _] _ _); refine two_str (by walk_at "hp") ?_)
  | ((with_reducible show rIsiT _ [V.ref _, _] _ _); first | refine two_lst (x := .non) (by walk_at "hp") (by walk_at "sa") ?_ | refine two_tup (x := .non) (by walk_at "hp") (by walk_at "sa") ?_)
  | ((with_reducible show rIsi _ [V.non, _] _ _); first | refine r_isi (b := true) (.base .non) (by decide +kernel) ?_ | refine r_isi (b := false) (.base .non) (by decide +kernel) ?_)
  | ((with_reducible show rIsi _ [V.bl _, _] _ _); first | refine r_isi (b := true) (.base (.bl _)) (by decide +kernel) ?_ | refine r_isi (b := false) (.base (.bl _)) (by decide +kernel) ?_)
  | ((with_reducible show rIsi _ [V.int _, _] _ _); first | refine r_isi (b := true) (.base (.int _)) (by decide +kernel) ?_ | refine r_isi (b := false) (.base (.int _)) (by decide +kernel) ?_)
  | ((with_reducible show rIsi _ [V.str _, _] _ _); first | refine r_isi (b := true) (.base (.str _)) (by decide +kernel) ?_ | refine r_isi (b := false) (.base (.str _)) (by decide +kernel) ?_)
  | ((with_reducible show rIsi _ [V.ref _, _] _ _); first | first | refine r_isi (b := true) (ty_lst (by walk_at "sa")) (by decide +kernel) ?_ | refine r_isi (b := false) (ty_lst (by walk_at "sa")) (by decide +kernel) ?_ | first | refine r_isi (b := true) (ty_tup (by walk_at "sa")) (by decide +kernel) ?_ | refine r_isi (b := false) (ty_tup (by walk_at "sa")) (by decide +kernel) ?_))
local macro_rules | `(tactic| walk_at "go") => `(tactic| repeat (first | walk_at "rd1" | walk_at "tf" | walk_at "isi" | ((with_reducible show ∀ _ : Addr, _ = none → _); intro _ _)))
theorem ok_alike (T : Txt K mg) : FnOk P w K mg base CX0 1 T.a_alike T.d_alike ["_law_told", "_law_due"] (spAlike K) := by
  refine T.F_alike.ok sc__law_alike (fun vs H Q E h => ?_) (fun cdv A outer s H vs Q E hr h => ⟨_, (pss_cons (ps_set (i := 2) sc__law_alike.nd rfl (.inl rfl) (pe_lst (pa_cons (pe_lst (pa_cons (pv 0) (pa_cons (pv 1) pa_nil))) pa_nil)))
      (pss_cons (ps_for PassesOwn.never rfl (pi_range1 (by rfl) T.z_range (pa_cons pe_int pa_nil)) (pg_name (i := 3) sc__law_alike.nd rfl (.inl rfl))
      (pss_cons (ps_if (pt_cmpR op_eq (pe_callB call_len_seq (by rfl) T.z_len PySem.boot_len (pa_cons (pv 2) pa_nil)) pe_int (nomark _))
      (pss_one (ps_ret pe_bl))
      pss_nil)
      (pss_cons (ps_set (i := 4) sc__law_alike.nd rfl (.inl rfl) (pe_bm0 PySem.F.plainAttrs_list PySem.F.slot_list_pop PySem.F.type_list_pop mt_pop (pv 2)))
      (pss_cons (ps_set (i := 5) sc__law_alike.nd rfl (.inl rfl) (pe_ix ix_list (pv 4) pe_int (fun _ _ => rfl)))
      (pss_cons (ps_set (i := 6) sc__law_alike.nd rfl (.inl rfl) (pe_ix ix_list (pv 4) pe_int (fun _ _ => rfl)))
      (pss_one (ps_if (pt_val (pe_callB call_isiT (by rfl) T.z_isinstance (by decide +kernel) (pa_cons (pv 6) (pa_cons (pe_tup (pa_cons (pe_bltn (v := .ty "list") (by rfl) T.z_list (by decide +kernel) rfl) (pa_cons (pe_bltn (v := .ty "tuple") (by rfl) T.z_tuple (by decide +kernel) rfl) pa_nil))) pa_nil))))
      (pss_cons (ps_if (PW.pt (pw_or (pt_not (pt_val (pe_callB call_isiT (by rfl) T.z_isinstance (by decide +kernel) (pa_cons (pv 5) (pa_cons (pe_tup (pa_cons (pe_bltn (v := .ty "list") (by rfl) T.z_list (by decide +kernel) rfl) (pa_cons (pe_bltn (v := .ty "tuple") (by rfl) T.z_tuple (by decide +kernel) rfl) pa_nil))) pa_nil))))) (pw_or1 (pt_cmpR op_ne (pe_callB call_isi (by rfl) T.z_isinstance (by decide +kernel) (pa_cons (pv 5) (pa_cons (pe_bltn (v := .ty "list") (by rfl) T.z_list (by decide +kernel) rfl) pa_nil))) (pe_callB call_isi (by rfl) T.z_isinstance (by decide +kernel) (pa_cons (pv 6) (pa_cons (pe_bltn (v := .ty "list") (by rfl) T.z_list (by decide +kernel) rfl) pa_nil))) (nomark _)))))
      (pss_one (ps_ret pe_bl))
      pss_nil)
      (pss_cons (ps_if (pt_cmpR op_ne (pe_callB call_len_seq (by rfl) T.z_len PySem.boot_len (pa_cons (pv 5) pa_nil)) (pe_callB call_len_seq (by rfl) T.z_len PySem.boot_len (pa_cons (pv 6) pa_nil)) (nomark _))
      (pss_one (ps_ret pe_bl))
      pss_nil)
      (pss_one (ps_for PassesOwn.never rfl (pi_range1 (by rfl) T.z_range (pa_cons (pe_callB call_len_seq (by rfl) T.z_len PySem.boot_len (pa_cons (pv 6) pa_nil)) pa_nil)) (pg_name (i := 7) sc__law_alike.nd rfl (.inl rfl))
      (pss_one (ps_expr (pe_bm PySem.F.plainAttrs_list PySem.F.slot_list_append PySem.F.type_list_append mt_append (pv 2) (pa_cons (pe_lst (pa_cons (pe_ix ix_seq (pv 5) (pv 7) (fun _ _ => rfl)) (pa_cons (pe_ix ix_seq (pv 6) (pv 7) (fun _ _ => rfl)) pa_nil))) pa_nil))))))))
      (pss_one (ps_if (pt_cmpR op_isN (pv 6) pe_non (nomark _))
      (pss_one (ps_if (pt_cmpR op_notN (pv 5) pe_non (nomark _))
      (pss_one (ps_ret pe_bl))
      pss_nil))
      (pss_one (ps_if (pt_val (pe_callB call_isi (by rfl) T.z_isinstance (by decide +kernel) (pa_cons (pv 6) (pa_cons (pe_bltn (v := .ty "bool") (by rfl) T.z_bool (by decide +kernel) rfl) pa_nil))))
      (pss_one (ps_if (PW.pt (pw_or (pt_not (pt_val (pe_callB call_isi (by rfl) T.z_isinstance (by decide +kernel) (pa_cons (pv 5) (pa_cons (pe_bltn (v := .ty "bool") (by rfl) T.z_bool (by decide +kernel) rfl) pa_nil))))) (pw_or1 (pt_cmpR op_ne (pv 5) (pv 6) (nomark _)))))
      (pss_one (ps_ret pe_bl))
      pss_nil))
      (pss_one (ps_if (pt_val (pe_callB call_isi (by rfl) T.z_isinstance (by decide +kernel) (pa_cons (pv 6) (pa_cons (pe_bltn (v := .ty "int") (by rfl) T.z_int (by decide +kernel) rfl) pa_nil))))
      (pss_one (ps_if (PW.pt (pw_or (pt_not (pt_val (pe_callB call_isi (by rfl) T.z_isinstance (by decide +kernel) (pa_cons (pv 5) (pa_cons (pe_bltn (v := .ty "int") (by rfl) T.z_int (by decide +kernel) rfl) pa_nil))))) (pw_or (pt_val (pe_callB call_isi (by rfl) T.z_isinstance (by decide +kernel) (pa_cons (pv 5) (pa_cons (pe_bltn (v := .ty "bool") (by rfl) T.z_bool (by decide +kernel) rfl) pa_nil)))) (pw_or1 (pt_cmpR op_ne (pv 5) (pv 6) (nomark _))))))
      (pss_one (ps_ret pe_bl))
      pss_nil))
      (pss_one (ps_if (PW.pt (pw_or (pt_not (pt_val (pe_callB call_isi (by rfl) T.z_isinstance (by decide +kernel) (pa_cons (pv 5) (pa_cons (pe_bltn (v := .ty "str") (by rfl) T.z_str (by decide +kernel) rfl) pa_nil))))) (pw_or1 (pt_cmpR op_ne (pv 5) (pv 6) (nomark _)))))
      (pss_one (ps_ret pe_bl))
      pss_nil)))))))))))))))
      (pss_one (ps_ret pe_bl)))), ?_⟩)
  · first | (obtain ⟨rfl, _⟩ := h; rfl) | (obtain ⟨_, rfl, _⟩ := h; rfl) | (obtain ⟨_, _, rfl, _⟩ := h; rfl) | (obtain ⟨_, _, _, rfl, _⟩ := h; rfl) | (obtain ⟨_, _, _, _, rfl, _⟩ := h; rfl) | (obtain ⟨_, _, _, _, _, rfl, _⟩ := h; rfl) | (obtain ⟨_, _, _, _, _, _, rfl, _⟩ := h; rfl) | (obtain ⟨_, _, _, _, _, _, _, rfl, _⟩ := h; rfl) | (obtain ⟨_, _, _, _, _, _, _, _, rfl, _⟩ := h; rfl) | (obtain ⟨_, _, _, _, _, _, _, _, _, rfl, _⟩ := h; rfl)
  · obtain ⟨x, y, N, rfl, hA, hN, k⟩ := h
    try dsimp only [cxOf, Cx.nox, Cx.wish]
    refine st_of (σ := [some _, some _, none, none, none, none, none, none]) rfl ?_
    walk_at "rd"
    intro p hp
    walk_at "rd"
    intro l hl
    have npl : p ≠ l := ne_of_none upd_same hl
    have hl0 : H l = none := by
      rw [upd_ne npl.symm] at hl
      exact hl
    walk_at "rd"
    refine c_rng1 ?_
    walk_at "rd"
    refine ⟨by decide, by decide, for_range (lo := 0) (n := 6000) (fun i σ' H' => ∃ vs xs ys n a b c d e, σ' = [some x, some y, some (.ref l), a, b, c, d, e] ∧ H' l = some (.lst vs) ∧ Prs l H' vs xs ys ∧ Als K H xs ys n ∧ n + i ≤ 5999 ∧ Same H H') ?_ ?_ ?_⟩
    · refine ⟨_, [x], [y], N, none, none, none, none, none, rfl, upd_same, .cons ((upd_ne npl).trans upd_same) npl .nil, ?_, by omega, by walk_at "sm"⟩
      exact .cons hA .nil
    · rintro i σ' H' hi ⟨vs, xs, ys, n, a, b, c, d, e, rfl, el, pr, al, hn, sm⟩
      obtain ⟨hv1, hv2⟩ := pr.len
      walk_at "rd"
      refine i_d (fun hz => ?_) (fun hz => ?_)
      · walk_at "rd"
        exact k H' sm
      · have hz' : vs.length ≠ 0 := by omega
        obtain ⟨vs, v, rfl⟩ := snoc hz'
        obtain ⟨xs, x1, rfl⟩ := snoc (l := xs) (by omega)
        obtain ⟨ys, y1, rfl⟩ := snoc (l := ys) (by omega)
        rw [List.length_append, List.length_append] at hv1
        rw [List.length_append, List.length_append] at hv2
        obtain ⟨p1, rfl, hp1, n1, pr⟩ := pr.last (by simpa using hv1) (by simpa using hv2)
        obtain ⟨m, q, rfl, als, al⟩ := al.last (by simpa using hv2)
        have pr' : Prs l (upd H' l (.lst vs)) vs xs ys := pr.keep fun p o n h => (upd_ne n).trans h
        have sm' : Same H (upd H' l (.lst vs)) := same_mut sm hl0
        have hp1' : (upd H' l (.lst vs)) p1 = some (.lst [x1, y1]) := (upd_ne n1).trans hp1
        have el' : (upd H' l (.lst vs)) l = some (.lst vs) := upd_same
        walk_at "rd"
        intro tp htp
        walk_at "rd"
        have hq := al.pos
        have hvs : vs.length ≤ 5999 := by
          have := als.le
          simp at hv1 hv2
          omega
        have fin : ∀ H2 n2 (q : Same (upd H' l (.lst vs)) H2), H2 l = some (.lst vs) → ∃ n3, n3 + (i + 1) ≤ 5999 ∧ Prs l H2 vs xs ys ∧ Als K H xs ys n3 ∧ Same H H2 := fun H2 n2 q z => ⟨m, by omega, pr'.keep fun p o _ h => q p o h, als, Same.trans sm' q⟩
        have fin : ∀ H2 (q : Same (upd H' l (.lst vs)) H2), ∃ n3, n3 + (i + 1) ≤ 5999 ∧ Prs l H2 vs xs ys ∧ Als K H xs ys n3 ∧ Same H H2 := fun H2 q => ⟨m, by omega, pr'.keep fun p o _ h => q p o h, als, Same.trans sm' q⟩
        cases al
        · walk_at "go"
          obtain ⟨n3, a1, a2, a3, a4⟩ := fin _ (same_new (Same.refl _) htp)
          exact ⟨vs, xs, ys, n3, _, _, _, _, _, rfl, by walk_at "hp", a2, a3, a1, a4⟩
        · walk_at "go"
          obtain ⟨n3, a1, a2, a3, a4⟩ := fin _ (same_new (Same.refl _) htp)
          exact ⟨vs, xs, ys, n3, _, _, _, _, _, rfl, by walk_at "hp", a2, a3, a1, a4⟩
        · walk_at "go"
          obtain ⟨n3, a1, a2, a3, a4⟩ := fin _ (same_new (Same.refl _) htp)
          exact ⟨vs, xs, ys, n3, _, _, _, _, _, rfl, by walk_at "hp", a2, a3, a1, a4⟩
        · walk_at "go"
          obtain ⟨n3, a1, a2, a3, a4⟩ := fin _ (same_new (Same.refl _) htp)
          exact ⟨vs, xs, ys, n3, _, _, _, _, _, rfl, by walk_at "hp", a2, a3, a1, a4⟩
        case lst a1 b1 xs1 ys1 n1 h1 h2 hs =>
          have hlen : xs1.length = ys1.length := hs.len
          walk_at "isi"
          walk_at "rd"
          intro tq htq
          walk_at "rd"
          walk_at "isi"
          walk_at "rd"
          walk_at "tf"
          walk_at "rd"
          walk_at "isi"
          walk_at "rd"
          walk_at "isi"
          walk_at "rd"
          walk_at "tf"
          walk_at "rd"
          refine i_n (fun hne => absurd (by omega) hne) (fun _ => ?_)
          walk_at "rd"
          with_reducible refine c_rng1 ?_
          walk_at "rd"
          have smq : Same H (upd (upd (upd H' l (.lst vs)) tp (.tup [.ty "list", .ty "tuple"])) tq (.tup [.ty "list", .ty "tuple"])) := by walk_at "sm"
          have prq : Prs l (upd (upd (upd H' l (.lst vs)) tp (.tup [.ty "list", .ty "tuple"])) tq (.tup [.ty "list", .ty "tuple"])) vs xs ys := pr'.keep fun p o _ h => (same_new (same_new (Same.refl _) htp) htq) p o h
          have elq : (upd (upd (upd H' l (.lst vs)) tp (.tup [.ty "list", .ty "tuple"])) tq (.tup [.ty "list", .ty "tuple"])) l = some (.lst vs) := by walk_at "hp"
          generalize (upd (upd (upd H' l (.lst vs)) tp (.tup [.ty "list", .ty "tuple"])) tq (.tup [.ty "list", .ty "tuple"])) = G at smq prq elq
          have hbnd : ys1.length ≤ 5999 := by
            have := hs.le
            omega
          refine ⟨by omega, by omega, for_range (lo := 0) (n := ys1.length) (fun j σ3 H3 => ∃ us e1, σ3 = [some x, some y, some (.ref l), some (.int (0 + (i : Int))), some (.ref p1), some (.ref a1), some (.ref b1), e1] ∧ H3 l = some (.lst us) ∧ us.length ≤ 5999 + j ∧ Prs l H3 us (xs ++ xs1.take j) (ys ++ ys1.take j) ∧ Same H H3) ?_ ?_ ?_⟩
          · refine ⟨vs, _, rfl, elq, by omega, ?_, smq⟩
            rw [List.take_zero, List.take_zero, List.append_nil, List.append_nil]
            exact prq
          · rintro j σ3 H3 hj ⟨us, e1, rfl, el3, hus, pr3, sm3⟩
            have hx : xs1[j]? = some (xs1[j]'(by omega)) := List.getElem?_eq_getElem _
            have hy : ys1[j]? = some (ys1[j]'(by omega)) := List.getElem?_eq_getElem _
            rw [Int.zero_add]
            walk_at "rd"
            refine .inl (r_ixL (by walk_at "sa") (atI_nat hx) ?_)
            walk_at "rd"
            refine .inl (r_ixL (by walk_at "sa") (atI_nat hy) ?_)
            walk_at "rd"
            intro q hq
            have hql : q ≠ l := (ne_of_none el3 hq).symm
            walk_at "rd"
            refine ⟨us ++ [.ref q], _, rfl, upd_same, by simp; omega, ?_, same_mut (same_new sm3 hq) hl0⟩
            rw [List.take_add_one, List.take_add_one, hx, hy]
            have pr4 : Prs l (upd (upd H3 q (.lst [xs1[j]'(by omega), ys1[j]'(by omega)])) l (.lst (us ++ [.ref q]))) us (xs ++ xs1.take j) (ys ++ ys1.take j) := pr3.keep fun p o n h => (upd_ne n).trans ((upd_ne (ne_of_none h hq)).trans h)
            have := pr4.app (p := q) ((upd_ne hql).trans upd_same) hql
            simpa [List.append_assoc] using this
          · rintro σ3 H3 ⟨us, e1, rfl, el3, hus, pr3, sm3⟩
            rw [List.take_of_length_le (by omega), List.take_of_length_le (by omega)] at pr3
            exact ⟨us, xs ++ xs1, ys ++ ys1, m + n1, _, _, _, _, _, rfl, el3, pr3, als.app hs, by omega, sm3⟩
        case tup a1 b1 xs1 ys1 n1 h1 h2 hs =>
          have hlen : xs1.length = ys1.length := hs.len
          walk_at "isi"
          walk_at "rd"
          intro tq htq
          walk_at "rd"
          walk_at "isi"
          walk_at "rd"
          walk_at "tf"
          walk_at "rd"
          walk_at "isi"
          walk_at "rd"
          walk_at "isi"
          walk_at "rd"
          walk_at "tf"
          walk_at "rd"
          refine i_n (fun hne => absurd (by omega) hne) (fun _ => ?_)
          walk_at "rd"
          with_reducible refine c_rng1 ?_
          walk_at "rd"
          have smq : Same H (upd (upd (upd H' l (.lst vs)) tp (.tup [.ty "list", .ty "tuple"])) tq (.tup [.ty "list", .ty "tuple"])) := by walk_at "sm"
          have prq : Prs l (upd (upd (upd H' l (.lst vs)) tp (.tup [.ty "list", .ty "tuple"])) tq (.tup [.ty "list", .ty "tuple"])) vs xs ys := pr'.keep fun p o _ h => (same_new (same_new (Same.refl _) htp) htq) p o h
          have elq : (upd (upd (upd H' l (.lst vs)) tp (.tup [.ty "list", .ty "tuple"])) tq (.tup [.ty "list", .ty "tuple"])) l = some (.lst vs) := by walk_at "hp"
          generalize (upd (upd (upd H' l (.lst vs)) tp (.tup [.ty "list", .ty "tuple"])) tq (.tup [.ty "list", .ty "tuple"])) = G at smq prq elq
          have hbnd : ys1.length ≤ 5999 := by
            have := hs.le
            omega
          refine ⟨by omega, by omega, for_range (lo := 0) (n := ys1.length) (fun j σ3 H3 => ∃ us e1, σ3 = [some x, some y, some (.ref l), some (.int (0 + (i : Int))), some (.ref p1), some (.ref a1), some (.ref b1), e1] ∧ H3 l = some (.lst us) ∧ us.length ≤ 5999 + j ∧ Prs l H3 us (xs ++ xs1.take j) (ys ++ ys1.take j) ∧ Same H H3) ?_ ?_ ?_⟩
          · refine ⟨vs, _, rfl, elq, by omega, ?_, smq⟩
            rw [List.take_zero, List.take_zero, List.append_nil, List.append_nil]
            exact prq
          · rintro j σ3 H3 hj ⟨us, e1, rfl, el3, hus, pr3, sm3⟩
            have hx : xs1[j]? = some (xs1[j]'(by omega)) := List.getElem?_eq_getElem _
            have hy : ys1[j]? = some (ys1[j]'(by omega)) := List.getElem?_eq_getElem _
            rw [Int.zero_add]
            walk_at "rd"
            refine .inr (.inl (r_ixT (by walk_at "sa") (atI_nat hx) ?_))
            walk_at "rd"
            refine .inr (.inl (r_ixT (by walk_at "sa") (atI_nat hy) ?_))
            walk_at "rd"
            intro q hq
            have hql : q ≠ l := (ne_of_none el3 hq).symm
            walk_at "rd"
            refine ⟨us ++ [.ref q], _, rfl, upd_same, by simp; omega, ?_, same_mut (same_new sm3 hq) hl0⟩
            rw [List.take_add_one, List.take_add_one, hx, hy]
            have pr4 : Prs l (upd (upd H3 q (.lst [xs1[j]'(by omega), ys1[j]'(by omega)])) l (.lst (us ++ [.ref q]))) us (xs ++ xs1.take j) (ys ++ ys1.take j) := pr3.keep fun p o n h => (upd_ne n).trans ((upd_ne (ne_of_none h hq)).trans h)
            have := pr4.app (p := q) ((upd_ne hql).trans upd_same) hql
            simpa [List.append_assoc] using this
          · rintro σ3 H3 ⟨us, e1, rfl, el3, hus, pr3, sm3⟩
            rw [List.take_of_length_le (by omega), List.take_of_length_le (by omega)] at pr3
            exact ⟨us, xs ++ xs1, ys ++ ys1, m + n1, _, _, _, _, _, rfl, el3, pr3, als.app hs, by omega, sm3⟩
    · rintro σ' H' ⟨vs, xs, ys, n, a, b, c, d, e, rfl, el, pr, al, hn, sm⟩
      omega
end

/-! ### numbers, pools, rows -/
def spNumber : Sp := fun vs H Q _ => ∃ (S L : Addr) (ns : List Int) (m : Int), vs = [.ref S, .int m] ∧ Strm S L ns H ∧ 6 ≤ m ∧ m < 10 ^ 30 ∧ ∀ r H', -m ≤ r → r ≤ m → Ex S H H' → Strm S L ns H' → Q (.int r) H'
theorem use_number {S L : Addr} {ns : List Int} {m : Int} {H : Hp} {Q : VK} {E : XK} (s : Strm S L ns H) (h0 : 6 ≤ m) (h1 : m < 10 ^ 30) (k : ∀ r H', -m ≤ r → r ≤ m → Ex S H H' → Strm S L ns H' → Q (.int r) H') : spNumber [.ref S, .int m] H Q E :=
  ⟨S, L, ns, m, rfl, s, h0, h1, k⟩
/-- a list of numbers at q -/
structure Nums (S : Addr) (H : Hp) (q : Addr) (ns : List Int) : Prop where
  at_ : H q = some (.lst (ns.map V.int))
  ne : q ≠ S
  len : ns.length ≤ 8
  bd : ∀ z ∈ ns, -(10 ^ 18) < z ∧ z < 10 ^ 18
theorem Nums.ex {S q : Addr} {H H' : Hp} {ns : List Int} (n : Nums S H q ns) (e : Ex S H H') : Nums S H' q ns := ⟨e _ _ n.ne n.at_, n.ne, n.len, n.bd⟩
/-- a pool: at p a list of n lists of numbers -/
structure Pool (S : Addr) (H : Hp) (p : Addr) (qs : List Addr) : Prop where
  at_ : H p = some (.lst (qs.map V.ref))
  ne : p ≠ S
  each : ∀ q ∈ qs, ∃ ns, Nums S H q ns ∧ 0 < ns.length
theorem Pool.ex {S p : Addr} {H H' : Hp} {qs : List Addr} (n : Pool S H p qs) (e : Ex S H H') : Pool S H' p qs :=
  ⟨e _ _ n.ne n.at_, n.ne, fun q hq => let ⟨ns, a, b⟩ := n.each q hq; ⟨ns, a.ex e, b⟩⟩
def spPool : Sp := fun vs H Q _ => ∃ (S L : Addr) (ns : List Int) (w : Nat), vs = [.ref S, .int (w : Int)] ∧ Strm S L ns H ∧ 1 ≤ w ∧ w ≤ 3 ∧ ∀ p qs H', H p = none → Ex S H H' → Strm S L ns H' → Pool S H' p qs → qs.length = w → Q (.ref p) H'
theorem Nums.app {S q : Addr} {H : Hp} {ns : List Int} {z : Int} (n : Nums S H q ns) (h : ns.length < 8) (h0 : -(10 ^ 18) < z) (h1 : z < 10 ^ 18) : Nums S (upd H q (.lst (ns.map V.int ++ [.int z]))) q (ns ++ [z]) :=
  ⟨by rw [upd_same, List.map_append]; rfl, n.ne, by rw [List.length_append]; exact h, fun y hy => by
    rcases List.mem_append.mp hy with hy | hy
    · exact n.bd y hy
    · rw [List.mem_singleton] at hy
      subst hy
      exact ⟨h0, h1⟩⟩
theorem Nums.get {S q : Addr} {H : Hp} {ns : List Int} (n : Nums S H q ns) {i : Nat} (h : i < ns.length) : -(10 ^ 18) < ns[i] ∧ ns[i] < 10 ^ 18 := n.bd _ (List.getElem_mem h)
theorem Pool.app {S p q : Addr} {H : Hp} {qs : List Addr} {ns : List Int} (n : Pool S H p qs) (hq : Nums S H q ns) (h0 : 0 < ns.length) (hpq : q ≠ p) (hqs : ∀ x ∈ qs, x ≠ p) : Pool S (upd H p (.lst (qs.map V.ref ++ [.ref q]))) p (qs ++ [q]) :=
  ⟨by rw [upd_same, List.map_append]; rfl, n.ne, fun y hy => by
    rcases List.mem_append.mp hy with hy | hy
    · obtain ⟨ms, a, b⟩ := n.each y hy
      exact ⟨ms, ⟨(upd_ne (hqs y hy)).trans a.at_, a.ne, a.len, a.bd⟩, b⟩
    · rw [List.mem_singleton] at hy
      subst hy
      exact ⟨ns, ⟨(upd_ne hpq).trans hq.at_, hq.ne, hq.len, hq.bd⟩, h0⟩⟩
theorem pick3 {w : Nat} (h0 : 1 ≤ w) (h1 : w ≤ 3) : ∃ v : Int, atI [V.int 8, .int 7, .int 2] ((w : Int) - 1) = some (.int v) ∧ 0 < v ∧ v ≤ 8 := by
  have : w = 1 ∨ w = 2 ∨ w = 3 := by omega
  rcases this with rfl | rfl | rfl
  · exact ⟨8, atI_nat (j := 0) rfl, by decide, by decide⟩
  · exact ⟨7, atI_nat (j := 1) rfl, by decide, by decide⟩
  · exact ⟨2, atI_nat (j := 2) rfl, by decide, by decide⟩
section
variable {P : Program} {w : World} {K : PySem.W.Frag} {mg : Str → Option Value} {base : Heap}
theorem ok_number (T : Txt K mg) : FnOk P w K mg base CX0 2 T.a_number T.d_number ["_law_stream_here", "_law_most"] (spNumber) := by
  refine T.F_number.ok sc__law_number (fun vs H Q E h => ?_) (fun cdv A outer s H vs Q E hr h => ⟨_, (pss_cons (ps_set (i := 2) sc__law_number.nd rfl (.inl rfl) (pe_call (ok_draw T) (hr.mono (by decide)) (by rfl) T.g_draw T.F_draw.kp T.b_draw .nil pass0 (pa_cons (pv 0) (pa_cons pe_int pa_nil))))
      (pss_cons (ps_if (pt_cmpR op_eq (pv 2) pe_int (nomark _))
      (pss_one (ps_ret (pe_op op_sub (pe_call (ok_draw T) (hr.mono (by decide)) (by rfl) T.g_draw T.F_draw.kp T.b_draw .nil pass0 (pa_cons (pv 0) (pa_cons (pe_op op_add (pe_op op_mul pe_int (pv 1)) pe_int) pa_nil))) (pv 1))))
      pss_nil)
      (pss_cons (ps_if (pt_cmpR op_eq (pv 2) pe_int (nomark _))
      (pss_one (ps_ret (pe_op op_mul (pe_op op_sub (pv 1) (pe_call (ok_draw T) (hr.mono (by decide)) (by rfl) T.g_draw T.F_draw.kp T.b_draw .nil pass0 (pa_cons (pv 0) (pa_cons pe_int pa_nil)))) (pe_op op_sub pe_int (pe_op op_mul pe_int (pe_call (ok_draw T) (hr.mono (by decide)) (by rfl) T.g_draw T.F_draw.kp T.b_draw .nil pass0 (pa_cons (pv 0) (pa_cons pe_int pa_nil))))))))
      pss_nil)
      (pss_one (ps_ret (pe_op op_sub (pe_call (ok_draw T) (hr.mono (by decide)) (by rfl) T.g_draw T.F_draw.kp T.b_draw .nil pass0 (pa_cons (pv 0) (pa_cons pe_int pa_nil))) pe_int)))))), ?_⟩)
  · first | (obtain ⟨rfl, _⟩ := h; rfl) | (obtain ⟨_, rfl, _⟩ := h; rfl) | (obtain ⟨_, _, rfl, _⟩ := h; rfl) | (obtain ⟨_, _, _, rfl, _⟩ := h; rfl) | (obtain ⟨_, _, _, _, rfl, _⟩ := h; rfl) | (obtain ⟨_, _, _, _, _, rfl, _⟩ := h; rfl) | (obtain ⟨_, _, _, _, _, _, rfl, _⟩ := h; rfl) | (obtain ⟨_, _, _, _, _, _, _, rfl, _⟩ := h; rfl) | (obtain ⟨_, _, _, _, _, _, _, _, rfl, _⟩ := h; rfl) | (obtain ⟨_, _, _, _, _, _, _, _, _, rfl, _⟩ := h; rfl)
  · obtain ⟨S, L, ns, m, rfl, st, h0, h1, k⟩ := h
    try dsimp only [cxOf, Cx.nox, Cx.wish]
    refine st_of (σ := [some _, some _, none]) rfl ?_
    walk_at "rd"
    refine use_draw st (by decide) (by decide) (fun kd H1 k0 k1 x1 st1 => ?_)
    walk_at "rd"
    refine i_d (fun hk => ?_) (fun hk => ?_)
    · walk_at "rd"
      refine use_draw st1 (by omega) (by omega) (fun r H2 r0 r1 x2 st2 => ?_)
      walk_at "rd"
      exact k _ _ (by omega) (by omega) (x1.trans x2) st2
    · walk_at "rd"
      refine i_d (fun hk => ?_) (fun hk => ?_)
      · walk_at "rd"
        refine use_draw st1 (by decide) (by decide) (fun r H2 r0 r1 x2 st2 => ?_)
        walk_at "rd"
        refine use_draw st2 (by decide) (by decide) (fun e H3 e0 e1 x3 st3 => ?_)
        walk_at "rd"
        have he : e = 0 ∨ e = 1 := by omega
        rcases he with rfl | rfl
        · exact k _ _ (by omega) (by omega) ((x1.trans x2).trans x3) st3
        · exact k _ _ (by omega) (by omega) ((x1.trans x2).trans x3) st3
      · walk_at "rd"
        refine use_draw st1 (by decide) (by decide) (fun r H2 r0 r1 x2 st2 => ?_)
        walk_at "rd"
        exact k _ _ (by omega) (by omega) (x1.trans x2) st2
theorem ok_pool (T : Txt K mg) : FnOk P w K mg base CX0 3 T.a_pool T.d_pool ["_law_stream_here", "_law_wide"] (spPool) := by
  refine T.F_pool.ok sc__law_pool (fun vs H Q E h => ?_) (fun cdv A outer s H vs Q E hr h => ⟨_, (pss_cons (ps_set (i := 2) sc__law_pool.nd rfl (.inl rfl) (pe_lst pa_nil))
      (pss_cons (ps_for PassesOwn.never rfl (pi_range1 (by rfl) T.z_range (pa_cons (pv 1) pa_nil)) (pg_name (i := 3) sc__law_pool.nd rfl (.inl rfl))
      (pss_cons (ps_set (i := 4) sc__law_pool.nd rfl (.inl rfl) (pe_lst (pa_cons (pe_call (ok_number T) (hr.mono (by decide)) (by rfl) T.g_number T.F_number.kp T.b_number .nil pass0 (pa_cons (pv 0) (pa_cons (pe_op op_sub (pe_op op_pow pe_int pe_int) pe_int) pa_nil))) pa_nil)))
      (pss_cons (ps_for PassesOwn.never rfl (pi_range1 (by rfl) T.z_range (pa_cons (pe_call (ok_draw T) (hr.mono (by decide)) (by rfl) T.g_draw T.F_draw.kp T.b_draw .nil pass0 (pa_cons (pv 0) (pa_cons (pe_ix ix_list (pe_lst (pa_cons pe_int (pa_cons pe_int (pa_cons pe_int pa_nil)))) (pe_op op_sub (pv 1) pe_int) (fun _ _ => rfl)) pa_nil))) pa_nil)) (pg_name (i := 5) sc__law_pool.nd rfl (.inl rfl))
      (pss_one (ps_if (PW.pt (pw_and (pt_cmpR op_lt (pe_ix ix_list (pv 4) (pv 5) (fun _ _ => rfl)) (pe_op op_sub (pe_op op_pow pe_int pe_int) pe_int) (nomark _)) (pw_and1 (pt_cmpR op_eq (pe_call (ok_draw T) (hr.mono (by decide)) (by rfl) T.g_draw T.F_draw.kp T.b_draw .nil pass0 (pa_cons (pv 0) (pa_cons pe_int pa_nil))) pe_int (nomark _)))))
      (pss_one (ps_expr (pe_bm PySem.F.plainAttrs_list PySem.F.slot_list_append PySem.F.type_list_append mt_append (pv 4) (pa_cons (pe_op op_add (pe_ix ix_list (pv 4) (pv 5) (fun _ _ => rfl)) (pe_call (ok_draw T) (hr.mono (by decide)) (by rfl) T.g_draw T.F_draw.kp T.b_draw .nil pass0 (pa_cons (pv 0) (pa_cons pe_int pa_nil)))) pa_nil))))
      (pss_one (ps_expr (pe_bm PySem.F.plainAttrs_list PySem.F.slot_list_append PySem.F.type_list_append mt_append (pv 4) (pa_cons (pe_call (ok_number T) (hr.mono (by decide)) (by rfl) T.g_number T.F_number.kp T.b_number .nil pass0 (pa_cons (pv 0) (pa_cons (pe_op op_sub (pe_op op_pow pe_int pe_int) pe_int) pa_nil))) pa_nil)))))))
      (pss_one (ps_expr (pe_bm PySem.F.plainAttrs_list PySem.F.slot_list_append PySem.F.type_list_append mt_append (pv 2) (pa_cons (pv 4) pa_nil)))))))
      (pss_one (ps_ret (pv 2))))), ?_⟩)
  · first | (obtain ⟨rfl, _⟩ := h; rfl) | (obtain ⟨_, rfl, _⟩ := h; rfl) | (obtain ⟨_, _, rfl, _⟩ := h; rfl) | (obtain ⟨_, _, _, rfl, _⟩ := h; rfl) | (obtain ⟨_, _, _, _, rfl, _⟩ := h; rfl) | (obtain ⟨_, _, _, _, _, rfl, _⟩ := h; rfl) | (obtain ⟨_, _, _, _, _, _, rfl, _⟩ := h; rfl) | (obtain ⟨_, _, _, _, _, _, _, rfl, _⟩ := h; rfl) | (obtain ⟨_, _, _, _, _, _, _, _, rfl, _⟩ := h; rfl) | (obtain ⟨_, _, _, _, _, _, _, _, _, rfl, _⟩ := h; rfl)
  · obtain ⟨S, L, ns, w, rfl, st, h0, h1, k⟩ := h
    try dsimp only [cxOf, Cx.nox, Cx.wish]
    refine st_of (σ := [some _, some _, none, none, none, none]) rfl ?_
    walk_at "rd"
    intro p hp
    have npS := st.neS hp
    have npL := st.neL hp
    walk_at "rd"
    with_reducible refine c_rng1 ?_
    walk_at "rd"
    refine ⟨by omega, by omega, for_range (lo := 0) (n := w) (fun i σ G => ∃ (qs : List Addr) (e3 e4 e5 : Option V), σ = [some (.ref S), some (.int (w : Int)), some (.ref p), e3, e4, e5] ∧ Strm S L ns G ∧ Ex S H G ∧ Pool S G p qs ∧ qs.length = i ∧ ∀ x ∈ qs, x ≠ p) ?_ ?_ ?_⟩
    · exact ⟨[], _, _, _, rfl, st.new hp, Ex.new (Ex.refl _ _) hp, ⟨upd_same, npS, fun q hq => nomatch hq⟩, rfl, fun q hq => nomatch hq⟩
    · rintro i σ G hi ⟨qs, e3, e4, e5, rfl, stG, xG, pl, hlen, hqp⟩
      walk_at "rd"
      refine use_number stG (by decide) (by decide) (fun z H1 z0 z1 x1 st1 => ?_)
      walk_at "rd"
      intro q hq
      have pl1 := pl.ex x1
      have hG1 := pl1.at_
      have nqp : q ≠ p := (ne_of_none hG1 hq).symm
      have nqS := st1.neS hq
      have nqL := st1.neL hq
      have hqx : ∀ x ∈ qs, x ≠ q := fun x hx => by
        obtain ⟨us, a, _⟩ := pl1.each x hx
        exact ne_of_none a.at_ hq
      have hqH : H q = none := by
        cases e : H q with
        | none => rfl
        | some o =>
          have := (xG.trans x1) _ _ nqS e
          rw [hq] at this
          cases this
      walk_at "rd"
      with_reducible refine c_rng1 ?_
      walk_at "rd"
      intro t ht
      walk_at "rd"
      obtain ⟨v, hv, v0, v8⟩ := pick3 h0 h1
      refine r_ixL (sql upd_same) hv ?_
      walk_at "rd"
      refine use_draw ((st1.new hq).new ht) v0 (by omega) (fun r H2 r0 r1 x2 st2 => ?_)
      have x02 : Ex S G H2 := x1.trans ((Ex.new (Ex.new (Ex.refl _ _) hq) ht).trans x2)
      have nm2 : Nums S H2 q [z] := ⟨x2 _ _ nqS (by walk_at "hp"), nqS, by simp, fun y hy => by
        rw [List.mem_singleton] at hy
        subst hy
        exact ⟨by omega, by omega⟩⟩
      walk_at "rd"
      refine ⟨by omega, by omega, for_range (lo := 0) (n := r.toNat) (fun j σ G3 => ∃ (ms : List Int) (e5 : Option V), σ = [some (.ref S), some (.int (w : Int)), some (.ref p), some (.int (0 + (i : Int))), some (.ref q), e5] ∧ Strm S L ns G3 ∧ Ex S H G3 ∧ Pool S G3 p qs ∧ Nums S G3 q ms ∧ ms.length = j + 1) ?_ ?_ ?_⟩
      · exact ⟨[z], e5, rfl, st2, xG.trans x02, pl.ex x02, nm2, rfl⟩
      · rintro j σ G3 hj ⟨ms, e5, rfl, st3, x3, pl3, nm3, hms⟩
        have hjl : j < ms.length := by omega
        have hz := nm3.get hjl
        have hm := map_at hjl
        have hsz : (ms.map V.int).length < sizeLine := smallLt (by rw [List.length_map]; omega)
        have h3 := nm3.at_
        have tail : ∀ (G4 : Hp) (y : Int), Ex S G3 G4 → Strm S L ns G4 → -(10 ^ 18) < y → y < 10 ^ 18 → Strm S L ns (upd G4 q (.lst (ms.map V.int ++ [.int y]))) ∧ Ex S H (upd G4 q (.lst (ms.map V.int ++ [.int y]))) ∧ Pool S (upd G4 q (.lst (ms.map V.int ++ [.int y]))) p qs ∧ Nums S (upd G4 q (.lst (ms.map V.int ++ [.int y]))) q (ms ++ [y]) ∧ (ms ++ [y]).length = j + 1 + 1 := by
          intro G4 y x4 st4 y0 y1
          refine ⟨st4.upd nqS nqL, Ex.mut (x3.trans x4) hqH, ?_, (nm3.ex x4).app (by omega) y0 y1, by simp [hms]⟩
          have pl4 := pl3.ex x4
          exact ⟨(upd_ne nqp.symm).trans pl4.at_, pl4.ne, fun x hx => by
            obtain ⟨us, a, b⟩ := pl4.each x hx
            exact ⟨us, ⟨(upd_ne (hqx x hx)).trans a.at_, a.ne, a.len, a.bd⟩, b⟩⟩
        rw [Int.zero_add]
        walk_at "rd"
        refine r_ixL (sql h3) (atI_nat hm) ?_
        have els : ∀ G4, Ex S G3 G4 → Strm S L ns G4 → ∃ (y : Int) (G5 : Hp), True := fun _ _ _ => ⟨0, G3, trivial⟩
        generalize ms[j] = y at hz hm
        walk_at "rd"
        refine i_d (fun hy => ?_) (fun hy => ?_)
        · walk_at "rd"
          refine use_draw st3 (by decide) (by decide) (fun d G4 d0 d1 x4 st4 => ?_)
          have h4 := (nm3.ex x4).at_
          walk_at "rd"
          refine i_d (fun hd => ?_) (fun hd => ?_)
          · walk_at "rd"
            refine r_ixL (sql h4) (atI_nat hm) ?_
            walk_at "rd"
            refine use_draw st4 (by decide) (by decide) (fun d' G5 d0' d1' x5 st5 => ?_)
            have h5 := (nm3.ex (x4.trans x5)).at_
            walk_at "rd"
            obtain ⟨t1, t2, t3, t4, t5⟩ := tail G5 (y + d') (x4.trans x5) st5 (by omega) (by omega)
            exact ⟨ms ++ [y + d'], some (.int (j : Int)), rfl, t1, t2, t3, t4, t5⟩
          · walk_at "rd"
            refine use_number st4 (by decide) (by decide) (fun d' G5 d0' d1' x5 st5 => ?_)
            have h5 := (nm3.ex (x4.trans x5)).at_
            walk_at "rd"
            obtain ⟨t1, t2, t3, t4, t5⟩ := tail G5 d' (x4.trans x5) st5 (by omega) (by omega)
            exact ⟨ms ++ [d'], some (.int (j : Int)), rfl, t1, t2, t3, t4, t5⟩
        · walk_at "rd"
          refine use_number st3 (by decide) (by decide) (fun d' G5 d0' d1' x5 st5 => ?_)
          have h5 := (nm3.ex x5).at_
          walk_at "rd"
          obtain ⟨t1, t2, t3, t4, t5⟩ := tail G5 d' x5 st5 (by omega) (by omega)
          exact ⟨ms ++ [d'], some (.int (j : Int)), rfl, t1, t2, t3, t4, t5⟩
      · rintro σ G3 ⟨ms, e5, rfl, st3, x3, pl3, nm3, hms⟩
        have hp3 := pl3.at_
        have hsz : (qs.map V.ref).length < sizeLine := smallLt (by rw [List.length_map]; omega)
        walk_at "rd"
        exact ⟨qs ++ [q], some (.int (0 + (i : Int))), some (.ref q), e5, rfl, st3.upd npS npL, Ex.mut x3 hp, pl3.app nm3 (by omega) nqp hqp, by simp [hlen], fun x hx => by
          rcases List.mem_append.mp hx with hx | hx
          · exact hqp x hx
          · rw [List.mem_singleton] at hx
            subst hx
            exact nqp⟩
    · rintro σ G ⟨qs, e3, e4, e5, rfl, stG, xG, pl, hlen, _⟩
      walk_at "rd"
      exact k p qs G hp xG stG pl hlen
end

/-! ### rows -/
def RowOk (us : List V) : Prop := ∀ v ∈ us, v = .non ∨ ∃ i : Int, v = .int i ∧ -(10 ^ 18) ≤ i ∧ i ≤ 10 ^ 18
def spRow : Sp := fun vs H Q _ => ∃ (S L : Addr) (ns : List Int) (p : Addr) (qs : List Addr), vs = [.ref S, .ref p] ∧ Strm S L ns H ∧ Pool S H p qs ∧ qs.length ≤ 3 ∧
  ∀ t us H', H t = none → Ex S H H' → Strm S L ns H' → H' t = some (.tup us) → us.length = qs.length → RowOk us → t ≠ S → Q (.ref t) H'
section
variable {P : Program} {w : World} {K : PySem.W.Frag} {mg : Str → Option Value} {base : Heap}
theorem ok_row (T : Txt K mg) : FnOk P w K mg base CX0 3 T.a_row T.d_row ["_law_stream_here", "_law_pool_here"] (spRow) := by
  refine T.F_row.ok sc__law_row (fun vs H Q E h => ?_) (fun cdv A outer s H vs Q E hr h => ⟨_, (pss_cons (ps_set (i := 2) sc__law_row.nd rfl (.inl rfl) (pe_lst pa_nil))
      (pss_cons (ps_for PassesOwn.never rfl (pi_list (pv 1)) (pg_name (i := 3) sc__law_row.nd rfl (.inl rfl))
      (pss_cons (ps_set (i := 4) sc__law_row.nd rfl (.inl rfl) (pe_call (ok_draw T) (hr.mono (by decide)) (by rfl) T.g_draw T.F_draw.kp T.b_draw .nil pass0 (pa_cons (pv 0) (pa_cons pe_int pa_nil))))
      (pss_one (ps_if (pt_cmpR op_eq (pv 4) pe_int (nomark _))
      (pss_one (ps_expr (pe_bm PySem.F.plainAttrs_list PySem.F.slot_list_append PySem.F.type_list_append mt_append (pv 2) (pa_cons pe_non pa_nil))))
      (pss_one (ps_if (pt_cmpR op_eq (pv 4) pe_int (nomark _))
      (pss_one (ps_expr (pe_bm PySem.F.plainAttrs_list PySem.F.slot_list_append PySem.F.type_list_append mt_append (pv 2) (pa_cons (pe_call (ok_number T) (hr.mono (by decide)) (by rfl) T.g_number T.F_number.kp T.b_number .nil pass0 (pa_cons (pv 0) (pa_cons (pe_op op_pow pe_int pe_int) pa_nil))) pa_nil))))
      (pss_one (ps_expr (pe_bm PySem.F.plainAttrs_list PySem.F.slot_list_append PySem.F.type_list_append mt_append (pv 2) (pa_cons (pe_op op_sub (pe_op op_add (pe_ix ix_list (pv 3) (pe_call (ok_draw T) (hr.mono (by decide)) (by rfl) T.g_draw T.F_draw.kp T.b_draw .nil pass0 (pa_cons (pv 0) (pa_cons (pe_callB call_len_seq (by rfl) T.z_len PySem.boot_len (pa_cons (pv 3) pa_nil)) pa_nil))) (fun _ _ => rfl)) (pe_op op_mod (pe_callTy call_int1 (by rfl) T.z_int (by decide +kernel) (pa_cons (pv 4) pa_nil)) pe_int)) pe_int) pa_nil))))))))))
      (pss_one (ps_ret (pe_callTy call_tuple_of (by rfl) T.z_tuple (by decide +kernel) (pa_cons (pv 2) pa_nil)))))), ?_⟩)
  · first | (obtain ⟨rfl, _⟩ := h; rfl) | (obtain ⟨_, rfl, _⟩ := h; rfl) | (obtain ⟨_, _, rfl, _⟩ := h; rfl) | (obtain ⟨_, _, _, rfl, _⟩ := h; rfl) | (obtain ⟨_, _, _, _, rfl, _⟩ := h; rfl) | (obtain ⟨_, _, _, _, _, rfl, _⟩ := h; rfl) | (obtain ⟨_, _, _, _, _, _, rfl, _⟩ := h; rfl) | (obtain ⟨_, _, _, _, _, _, _, rfl, _⟩ := h; rfl) | (obtain ⟨_, _, _, _, _, _, _, _, rfl, _⟩ := h; rfl) | (obtain ⟨_, _, _, _, _, _, _, _, _, rfl, _⟩ := h; rfl)
  · obtain ⟨S, L, ns, p, qs, rfl, st, pl, hq3, k⟩ := h
    try dsimp only [cxOf, Cx.nox, Cx.wish]
    refine st_of (σ := [some _, some _, none, none, none]) rfl ?_
    walk_at "rd"
    intro t ht
    have ntS := st.neS ht
    have ntL := st.neL ht
    have hp0 := pl.at_
    have npt : p ≠ t := ne_of_none hp0 ht
    walk_at "rd"
    with_reducible refine c_forList ?_
    walk_at "rd"
    refine ⟨⟨_, sql ((upd_ne npt).trans hp0)⟩, for_list (xs := qs.map V.ref) (fun i σ G => ∃ (us : List V) (e3 e4 : Option V), σ = [some (.ref S), some (.ref p), some (.ref t), e3, e4] ∧ Strm S L ns G ∧ Ex S H G ∧ G t = some (.lst us) ∧ us.length = i ∧ RowOk us) ?_ ?_ ?_ ?_⟩
    · exact ⟨[], none, none, rfl, st.new ht, Ex.new (Ex.refl _ _) ht, upd_same, rfl, fun v hv => nomatch hv⟩
    · rintro i σ G _ ⟨_, _, _, _, _, xG, _⟩
      exact sql (pl.ex xG).at_
    · rintro i x σ G hi ⟨us, e3, e4, rfl, stG, xG, gt, hlen, ok⟩
      obtain ⟨q, hqm, rfl⟩ : ∃ q, q ∈ qs ∧ x = V.ref q := by
        have := List.mem_of_getElem? hi
        obtain ⟨q, a, b⟩ := List.mem_map.mp this
        exact ⟨q, a, b.symm⟩
      have hil : i < qs.length := by
        have := (List.getElem?_eq_some_iff.mp hi).1
        simpa using this
      have hsz : us.length < sizeLine := smallLt (by omega)
      have add : ∀ (G' : Hp) (v : V), Ex S G G' → Strm S L ns G' → (v = .non ∨ ∃ z : Int, v = .int z ∧ -(10 ^ 18) ≤ z ∧ z ≤ 10 ^ 18) →
          Strm S L ns (upd G' t (.lst (us ++ [v]))) ∧ Ex S H (upd G' t (.lst (us ++ [v]))) ∧ (us ++ [v]).length = i + 1 ∧ RowOk (us ++ [v]) := by
        intro G' v x' st' hv
        refine ⟨st'.upd ntS ntL, Ex.mut (xG.trans x') ht, by simp [hlen], fun y hy => ?_⟩
        rcases List.mem_append.mp hy with hy | hy
        · exact ok y hy
        · rw [List.mem_singleton] at hy
          subst hy
          exact hv
      walk_at "rd"
      refine use_draw stG (by decide) (by decide) (fun kd G1 k0 k1 x1 st1 => ?_)
      have g1 := x1 _ _ ntS gt
      walk_at "rd"
      refine i_d (fun hk => ?_) (fun hk => ?_)
      · walk_at "rd"
        obtain ⟨a1, a2, a3, a4⟩ := add G1 .non x1 st1 (.inl rfl)
        exact ⟨us ++ [.non], some (.ref q), some (.int kd), rfl, a1, a2, upd_same, a3, a4⟩
      · walk_at "rd"
        refine i_d (fun hk => ?_) (fun hk => ?_)
        · walk_at "rd"
          refine use_number st1 (by decide) (by decide) (fun z G2 z0 z1 x2 st2 => ?_)
          have g2 := x2 _ _ ntS g1
          walk_at "rd"
          obtain ⟨a1, a2, a3, a4⟩ := add G2 (.int z) (x1.trans x2) st2 (.inr ⟨z, rfl, by omega, by omega⟩)
          exact ⟨us ++ [.int z], some (.ref q), some (.int kd), rfl, a1, a2, upd_same, a3, a4⟩
        · obtain ⟨ms, nm, m0⟩ := ((pl.ex xG).ex x1).each q hqm
          have hms := nm.at_
          have hm8 := nm.len
          walk_at "rd"
          refine use_draw st1 (by rw [List.length_map]; omega) (by rw [List.length_map]; omega) (fun d G2 d0 d1 x2 st2 => ?_)
          rw [List.length_map] at d1
          have hdl : d.toNat < ms.length := by omega
          have hd := map_at hdl
          have hz := (nm.ex x2).get hdl
          have hms2 := (nm.ex x2).at_
          have g2 := x2 _ _ ntS g1
          walk_at "rd"
          refine r_ixL (sql hms2) (at_of (j := d.toNat) (by omega) hd) ?_
          generalize ms[d.toNat] = z at hz hd
          walk_at "rd"
          obtain ⟨a1, a2, a3, a4⟩ := add G2 (.int (z + kd % 3 - 1)) (x1.trans x2) st2 (.inr ⟨_, rfl, by omega, by omega⟩)
          exact ⟨us ++ [.int (z + kd % 3 - 1)], some (.ref q), some (.int kd), rfl, a1, a2, upd_same, a3, a4⟩
    · rintro σ G ⟨us, e3, e4, rfl, stG, xG, gt, hlen, ok⟩
      rw [List.length_map] at hlen
      walk_at "rd"
      refine ⟨t, us, rfl, .inl ⟨sql gt, fun r hr => ?_⟩⟩
      have nrS := stG.neS hr
      have hrH : H r = none := by
        cases e : H r with
        | none => rfl
        | some o =>
          have := xG _ _ nrS e
          rw [hr] at this
          cases this
      exact k r us _ hrH (Ex.new xG hr) (stG.new hr) upd_same hlen ok nrS
end

def cmpI (s : Str) (i n : Int) : Bool := if s = "<" then decide (i < n) else if s = "<=" then decide (i ≤ n) else if s = "=" then decide (i = n) else if s = "!=" then !decide (i = n) else if s = ">=" then decide (n ≤ i) else decide (n < i)
def cmpV (s : Str) (v : V) (n : Int) : V := match v with
  | .int i => .bl (cmpI s i n)
  | _ => .non
def signs : List Str := ["<", "<=", "=", "!=", ">=", ">"]
/-- the parts of a comparison, of missing; the column; the truth for the value there -/
inductive Leaf : List V → Nat → (V → V) → Prop where
  | cmp {s : Str} {c : Nat} {n : Int} (hs : s ∈ signs) : Leaf [.str s, .int (c : Int), .int n] c (fun v => cmpV s v n)
  | mis {c : Nat} : Leaf [.str "missing", .int (c : Int)] c (fun v => .bl (decide (v = .non)))
def VNI (v : V) : Prop := v = .non ∨ ∃ i : Int, v = .int i
def VNB (v : V) : Prop := v = .non ∨ ∃ b : Bool, v = .bl b
theorem cmpV_ok {s : Str} {v : V} {n : Int} (h : VNI v) : VNB (cmpV s v n) := by
  rcases h with rfl | ⟨i, rfl⟩
  · exact .inl rfl
  · exact .inr ⟨_, rfl⟩
theorem leaf_ok {xs : List V} {c : Nat} {f : V → V} {v : V} (l : Leaf xs c f) (h : VNI v) : VNB (f v) := by
  cases l with
  | cmp _ => exact cmpV_ok h
  | mis => exact .inr ⟨_, rfl⟩
theorem sign_in {s : Str} (h : s ∈ signs) : inV (.str s) [.str "<", .str "<=", .str "=", .str "!=", .str ">=", .str ">"] = true := by
  simp only [signs, List.mem_cons, List.not_mem_nil, or_false] at h
  rcases h with rfl | rfl | rfl | rfl | rfl | rfl <;> decide +kernel
theorem mis_in : inV (.str "missing") [.str "<", .str "<=", .str "=", .str "!=", .str ">=", .str ">"] = false := by decide +kernel
def spCompares : Sp := fun vs H Q _ => ∃ (i : Int) (s : Str) (n : Int), vs = [.int i, .str s, .int n] ∧ Q (.bl (cmpI s i n)) H
def spCompTruth : Sp := fun vs H Q _ => ∃ (v : V) (s : Str) (n : Int), vs = [v, .str s, .int n] ∧ VNI v ∧ Q (cmpV s v n) H
def spCompared : Sp := fun vs H Q _ => ∃ (s : Str) (v : V) (n : Int), vs = [.str s, v, .int n] ∧ VNI v ∧ Q (cmpV s v n) H
def spTruth (K : PySem.W.Frag) : Sp := fun vs H Q _ => ∃ (p r : Addr) (xs : List V) (c : Nat) (f : V → V) (us : List V) (v : V), vs = [.ref p, .ref r] ∧ SqT K H p xs ∧ Leaf xs c f ∧ (SqL K H r us ∨ SqT K H r us) ∧ us[c]? = some v ∧ VNI v ∧ Q (f v) H
def spHolds (K : PySem.W.Frag) : Sp := fun vs H Q _ => ∃ (p r : Addr) (xs : List V) (c : Nat) (f : V → V) (us : List V) (v : V), vs = [.ref p, .ref r] ∧ SqT K H p xs ∧ Leaf xs c f ∧ (SqL K H r us ∨ SqT K H r us) ∧ us[c]? = some v ∧ VNI v ∧ Q (.bl (decide (f v = .bl true))) H
theorem r_ix {K : PySem.W.Frag} {p : Addr} {xs : List V} {i : Int} {v : V} {H : Hp} {Q : VK} (hx : SqL K H p xs ∨ SqT K H p xs) (ha : atI xs i = some v) (h : Q v H) : rIx K (.ref p) (.int i) H Q := by
  rcases hx with hx | hx
  · exact .inl (r_ixL hx ha h)
  · exact .inr (.inl (r_ixT hx ha h))
section
variable {P : Program} {w : World} {K : PySem.W.Frag} {mg : Str → Option Value} {base : Heap}
theorem ok_compares (T : Txt K mg) : FnOk P w K mg base CX0 1 T.a_compares T.d_compares ["value", "sign", "number"] (spCompares) := by
  refine T.F_compares.ok sc_compares (fun vs H Q E h => ?_) (fun cdv A outer s H vs Q E hr h => ⟨_, (pss_cons (ps_if (pt_cmpR op_eq (pv 1) pe_str (nomark _))
      (pss_one (ps_ret (pe_cmpR op_lt (pv 0) (pv 2) (nomark _))))
      pss_nil)
      (pss_cons (ps_if (pt_cmpR op_eq (pv 1) pe_str (nomark _))
      (pss_one (ps_ret (pe_cmpR op_le (pv 0) (pv 2) (nomark _))))
      pss_nil)
      (pss_cons (ps_if (pt_cmpR op_eq (pv 1) pe_str (nomark _))
      (pss_one (ps_ret (pe_cmpR op_eq (pv 0) (pv 2) (nomark _))))
      pss_nil)
      (pss_cons (ps_if (pt_cmpR op_eq (pv 1) pe_str (nomark _))
      (pss_one (ps_ret (pe_cmpR op_ne (pv 0) (pv 2) (nomark _))))
      pss_nil)
      (pss_cons (ps_if (pt_cmpR op_eq (pv 1) pe_str (nomark _))
      (pss_one (ps_ret (pe_cmpR op_ge (pv 0) (pv 2) (nomark _))))
      pss_nil)
      (pss_one (ps_ret (pe_cmpR op_gt (pv 0) (pv 2) (nomark _))))))))), ?_⟩)
  · first | (obtain ⟨rfl, _⟩ := h; rfl) | (obtain ⟨_, rfl, _⟩ := h; rfl) | (obtain ⟨_, _, rfl, _⟩ := h; rfl) | (obtain ⟨_, _, _, rfl, _⟩ := h; rfl) | (obtain ⟨_, _, _, _, rfl, _⟩ := h; rfl) | (obtain ⟨_, _, _, _, _, rfl, _⟩ := h; rfl) | (obtain ⟨_, _, _, _, _, _, rfl, _⟩ := h; rfl) | (obtain ⟨_, _, _, _, _, _, _, rfl, _⟩ := h; rfl) | (obtain ⟨_, _, _, _, _, _, _, _, rfl, _⟩ := h; rfl) | (obtain ⟨_, _, _, _, _, _, _, _, _, rfl, _⟩ := h; rfl)
  · obtain ⟨i, s, n, rfl, k⟩ := h
    unfold cmpI at k
    try dsimp only [cxOf, Cx.nox, Cx.wish]
    refine st_of (σ := [some _, some _, some _]) rfl ?_
    walk_at "rd"
    refine i_d (fun e => ?_) (fun e => ?_)
    · rw [if_pos e] at k
      walk_at "rd"
      exact k
    rw [if_neg e] at k
    walk_at "rd"
    refine i_d (fun e => ?_) (fun e => ?_)
    · rw [if_pos e] at k
      walk_at "rd"
      exact k
    rw [if_neg e] at k
    walk_at "rd"
    refine i_d (fun e => ?_) (fun e => ?_)
    · rw [if_pos e] at k
      walk_at "rd"
      exact k
    rw [if_neg e] at k
    walk_at "rd"
    refine i_d (fun e => ?_) (fun e => ?_)
    · rw [if_pos e] at k
      walk_at "rd"
      exact k
    rw [if_neg e] at k
    walk_at "rd"
    refine i_d (fun e => ?_) (fun e => ?_)
    · rw [if_pos e] at k
      walk_at "rd"
      exact k
    rw [if_neg e] at k
    walk_at "rd"
    exact k
theorem ok_comparison_truth (T : Txt K mg) : FnOk P w K mg base CX0 2 T.a_comparison_truth T.d_comparison_truth ["value", "sign", "number"] (spCompTruth) := by
  refine T.F_comparison_truth.ok sc_comparison_truth (fun vs H Q E h => ?_) (fun cdv A outer s H vs Q E hr h => ⟨_, (pss_cons (ps_if (pt_cmpR op_isN (pv 0) pe_non (nomark _))
      (pss_one (ps_ret pe_non))
      pss_nil)
      (pss_one (ps_ret (pe_call (ok_compares T) (hr.mono (by decide)) (by rfl) T.g_compares T.F_compares.kp T.b_compares .nil pass0 (pa_cons (pv 0) (pa_cons (pv 1) (pa_cons (pv 2) pa_nil))))))), ?_⟩)
  · first | (obtain ⟨rfl, _⟩ := h; rfl) | (obtain ⟨_, rfl, _⟩ := h; rfl) | (obtain ⟨_, _, rfl, _⟩ := h; rfl) | (obtain ⟨_, _, _, rfl, _⟩ := h; rfl) | (obtain ⟨_, _, _, _, rfl, _⟩ := h; rfl) | (obtain ⟨_, _, _, _, _, rfl, _⟩ := h; rfl) | (obtain ⟨_, _, _, _, _, _, rfl, _⟩ := h; rfl) | (obtain ⟨_, _, _, _, _, _, _, rfl, _⟩ := h; rfl) | (obtain ⟨_, _, _, _, _, _, _, _, rfl, _⟩ := h; rfl) | (obtain ⟨_, _, _, _, _, _, _, _, _, rfl, _⟩ := h; rfl)
  · obtain ⟨v, s, n, rfl, hv, k⟩ := h
    try dsimp only [cxOf, Cx.nox, Cx.wish]
    refine st_of (σ := [some _, some _, some _]) rfl ?_
    walk_at "rd"
    rcases hv with rfl | ⟨i, rfl⟩
    · walk_at "rd"
      walk_at "tf"
      walk_at "rd"
      exact k
    · walk_at "rd"
      walk_at "tf"
      walk_at "rd"
      exact ⟨i, s, n, rfl, k⟩
theorem ok_compared (T : Txt K mg) : FnOk P w K mg base CX0 1 T.a_compared T.d_compared ["_law_sign", "_law_value", "_law_number_here"] (spCompared) := by
  refine T.F_compared.ok sc__law_compared (fun vs H Q E h => ?_) (fun cdv A outer s H vs Q E hr h => ⟨_, (pss_cons (ps_if (pt_cmpR op_isN (pv 1) pe_non (nomark _))
      (pss_one (ps_ret pe_non))
      pss_nil)
      (pss_cons (ps_if (pt_cmpR op_eq (pv 0) pe_str (nomark _))
      (pss_one (ps_ret (pe_cmpR op_lt (pv 1) (pv 2) (nomark _))))
      pss_nil)
      (pss_cons (ps_if (pt_cmpR op_eq (pv 0) pe_str (nomark _))
      (pss_one (ps_ret (pe_cmpR op_le (pv 1) (pv 2) (nomark _))))
      pss_nil)
      (pss_cons (ps_if (pt_cmpR op_eq (pv 0) pe_str (nomark _))
      (pss_one (ps_ret (pe_cmpR op_eq (pv 1) (pv 2) (nomark _))))
      pss_nil)
      (pss_cons (ps_if (pt_cmpR op_eq (pv 0) pe_str (nomark _))
      (pss_one (ps_ret (pe_cmpR op_ne (pv 1) (pv 2) (nomark _))))
      pss_nil)
      (pss_cons (ps_if (pt_cmpR op_eq (pv 0) pe_str (nomark _))
      (pss_one (ps_ret (pe_cmpR op_ge (pv 1) (pv 2) (nomark _))))
      pss_nil)
      (pss_one (ps_ret (pe_cmpR op_gt (pv 1) (pv 2) (nomark _)))))))))), ?_⟩)
  · first | (obtain ⟨rfl, _⟩ := h; rfl) | (obtain ⟨_, rfl, _⟩ := h; rfl) | (obtain ⟨_, _, rfl, _⟩ := h; rfl) | (obtain ⟨_, _, _, rfl, _⟩ := h; rfl) | (obtain ⟨_, _, _, _, rfl, _⟩ := h; rfl) | (obtain ⟨_, _, _, _, _, rfl, _⟩ := h; rfl) | (obtain ⟨_, _, _, _, _, _, rfl, _⟩ := h; rfl) | (obtain ⟨_, _, _, _, _, _, _, rfl, _⟩ := h; rfl) | (obtain ⟨_, _, _, _, _, _, _, _, rfl, _⟩ := h; rfl) | (obtain ⟨_, _, _, _, _, _, _, _, _, rfl, _⟩ := h; rfl)
  · obtain ⟨s, v, n, rfl, hv, k⟩ := h
    try dsimp only [cxOf, Cx.nox, Cx.wish]
    refine st_of (σ := [some _, some _, some _]) rfl ?_
    walk_at "rd"
    rcases hv with rfl | ⟨i, rfl⟩
    · walk_at "rd"
      walk_at "tf"
      walk_at "rd"
      exact k
    · have k : Q (V.bl (cmpI s i n)) H := k
      unfold cmpI at k
      walk_at "rd"
      walk_at "tf"
      walk_at "rd"
      refine i_d (fun e => ?_) (fun e => ?_)
      · rw [if_pos e] at k
        walk_at "rd"
        exact k
      rw [if_neg e] at k
      walk_at "rd"
      refine i_d (fun e => ?_) (fun e => ?_)
      · rw [if_pos e] at k
        walk_at "rd"
        exact k
      rw [if_neg e] at k
      walk_at "rd"
      refine i_d (fun e => ?_) (fun e => ?_)
      · rw [if_pos e] at k
        walk_at "rd"
        exact k
      rw [if_neg e] at k
      walk_at "rd"
      refine i_d (fun e => ?_) (fun e => ?_)
      · rw [if_pos e] at k
        walk_at "rd"
        exact k
      rw [if_neg e] at k
      walk_at "rd"
      refine i_d (fun e => ?_) (fun e => ?_)
      · rw [if_pos e] at k
        walk_at "rd"
        exact k
      rw [if_neg e] at k
      walk_at "rd"
      exact k
theorem ok_truth (T : Txt K mg) : FnOk P w K mg base CX0 3 T.a_truth T.d_truth ["predicate", "row"] (spTruth K) := by
  refine T.F_truth.ok sc_truth (fun vs H Q E h => ?_) (fun cdv A outer s H vs Q E hr h => ⟨_, (pss_cons (ps_set (i := 2) sc_truth.nd rfl (.inl rfl) (pe_ix ix_tup (pv 0) pe_int (fun _ _ => rfl)))
      (pss_cons (ps_if (pt_cmpR op_in_seq (pv 2) (pe_glob (v := .ref T.c_SIGNS) rfl T.g_SIGNS rfl) (by rfl))
      (pss_one (ps_ret (pe_call (ok_comparison_truth T) (hr.mono (by decide)) (by rfl) T.g_comparison_truth T.F_comparison_truth.kp T.b_comparison_truth .nil pass0 (pa_cons (pe_ix ix_seq (pv 1) (pe_ix ix_tup (pv 0) pe_int (fun _ _ => rfl)) (fun _ _ => rfl)) (pa_cons (pv 2) (pa_cons (pe_ix ix_tup (pv 0) pe_int (fun _ _ => rfl)) pa_nil))))))
      pss_nil)
      (pss_cons (ps_if (pt_cmpR op_eq (pv 2) pe_str (nomark _))
      (pss_one (ps_ret (pe_cmpR op_isN (pe_ix ix_seq (pv 1) (pe_ix ix_tup (pv 0) pe_int (fun _ _ => rfl)) (fun _ _ => rfl)) pe_non (nomark _))))
      pss_nil)
      pss_never))), ?_⟩)
  · first | (obtain ⟨rfl, _⟩ := h; rfl) | (obtain ⟨_, rfl, _⟩ := h; rfl) | (obtain ⟨_, _, rfl, _⟩ := h; rfl) | (obtain ⟨_, _, _, rfl, _⟩ := h; rfl) | (obtain ⟨_, _, _, _, rfl, _⟩ := h; rfl) | (obtain ⟨_, _, _, _, _, rfl, _⟩ := h; rfl) | (obtain ⟨_, _, _, _, _, _, rfl, _⟩ := h; rfl) | (obtain ⟨_, _, _, _, _, _, _, rfl, _⟩ := h; rfl) | (obtain ⟨_, _, _, _, _, _, _, _, rfl, _⟩ := h; rfl) | (obtain ⟨_, _, _, _, _, _, _, _, _, rfl, _⟩ := h; rfl)
  · obtain ⟨p, r, xs, c, f, us, v, rfl, hp, lf, hr2, hv, ni, k⟩ := h
    try dsimp only [cxOf, Cx.nox, Cx.wish]
    refine st_of (σ := [some _, some _, none, none, none]) rfl ?_
    cases lf with
    | cmp hs =>
      walk_at "rd"
      refine r_inT (T.l_SIGNS _) rfl rfl ?_
      rw [if_neg (by decide), sign_in hs]
      walk_at "rd"
      refine r_ix hr2 (atI_nat hv) ?_
      walk_at "rd"
      exact ⟨v, _, _, rfl, ni, k⟩
    | mis =>
      walk_at "rd"
      refine r_inT (T.l_SIGNS _) rfl rfl ?_
      rw [if_neg (by decide), mis_in]
      walk_at "rd"
      walk_at "tf"
      walk_at "rd"
      refine r_ix hr2 (atI_nat hv) ?_
      walk_at "rd"
      exact k
theorem ok_holds (T : Txt K mg) : FnOk P w K mg base CX0 4 T.a_holds T.d_holds ["predicate", "row"] (spHolds K) := by
  refine T.F_holds.ok sc_holds (fun vs H Q E h => ?_) (fun cdv A outer s H vs Q E hr h => ⟨_, (pss_one (ps_ret (pe_cmpR op_isW (pe_call (ok_truth T) (hr.mono (by decide)) (by rfl) T.g_truth T.F_truth.kp T.b_truth .nil pass0 (pa_cons (pv 0) (pa_cons (pv 1) pa_nil))) pe_bl (nomark _)))), ?_⟩)
  · first | (obtain ⟨rfl, _⟩ := h; rfl) | (obtain ⟨_, rfl, _⟩ := h; rfl) | (obtain ⟨_, _, rfl, _⟩ := h; rfl) | (obtain ⟨_, _, _, rfl, _⟩ := h; rfl) | (obtain ⟨_, _, _, _, rfl, _⟩ := h; rfl) | (obtain ⟨_, _, _, _, _, rfl, _⟩ := h; rfl) | (obtain ⟨_, _, _, _, _, _, rfl, _⟩ := h; rfl) | (obtain ⟨_, _, _, _, _, _, _, rfl, _⟩ := h; rfl) | (obtain ⟨_, _, _, _, _, _, _, _, rfl, _⟩ := h; rfl) | (obtain ⟨_, _, _, _, _, _, _, _, _, rfl, _⟩ := h; rfl)
  · obtain ⟨p, r, xs, c, f, us, v, rfl, hp, lf, hr2, hv, ni, k⟩ := h
    try dsimp only [cxOf, Cx.nox, Cx.wish]
    refine st_of (σ := [some _, some _]) rfl ?_
    walk_at "rd"
    refine ⟨p, r, xs, c, f, us, v, rfl, hp, lf, hr2, hv, ni, ?_⟩
    walk_at "rd"
    exact r_isW (leaf_ok lf ni) k
end

def spRight (K : PySem.W.Frag) : Sp := fun vs H Q _ => ∃ (p r : Addr) (xs : List V) (c : Nat) (f : V → V) (us : List V) (v : V), vs = [.ref p, .ref r, f v] ∧ SqT K H p xs ∧ Leaf xs c f ∧ (SqL K H r us ∨ SqT K H r us) ∧ us[c]? = some v ∧ VNI v ∧ ∀ H', Same H H' → Q (.bl true) H'
theorem al_vnb {K : PySem.W.Frag} {H : Hp} {v : V} (h : VNB v) : Al K H v v 1 := by
  rcases h with rfl | ⟨b, rfl⟩
  · exact .non
  · exact .bl b
def spLaw (K : PySem.W.Frag) : Sp := fun vs H Q _ => ∃ (a : Addr) (ns : List Int), vs = [.ref a] ∧ SqL K H a (ns.map V.int) ∧ ns.length ≤ 63 ∧ ∀ H', Q (.bl true) H'
theorem row_vni {us : List V} (h : RowOk us) {v : V} (hv : v ∈ us) : VNI v := by
  rcases h v hv with e | ⟨i, e, _⟩
  · exact .inl e
  · exact .inr ⟨i, e⟩
def toD : V → PyData
  | .int i => .int i
  | _ => .none
theorem dp_row {K : PySem.W.Frag} {H : Hp} : ∀ us : List V, (∀ v ∈ us, VNI v) → DpAll K H us (us.map toD)
  | [], _ => .nil
  | v :: r, h => by
    refine .cons ?_ (dp_row r fun x hx => h x (List.mem_cons_of_mem _ hx))
    rcases h v List.mem_cons_self with rfl | ⟨i, rfl⟩
    · exact .non
    · exact .int i
theorem shaped_row : ∀ us : List V, us.length ≤ 3 → (∀ v ∈ us, VNI v) → SeqAt.shaped (.tuple (us.map toD)) = true
  | [], _, _ => by rfl
  | [a], _, h => by
    rcases h a (by simp) with rfl | ⟨i, rfl⟩ <;> rfl
  | [a, b], _, h => by
    rcases h a (by simp) with rfl | ⟨i, rfl⟩ <;> rcases h b (by simp) with rfl | ⟨j, rfl⟩ <;> rfl
  | [a, b, c], _, h => by
    rcases h a (by simp) with rfl | ⟨i, rfl⟩ <;> rcases h b (by simp) with rfl | ⟨j, rfl⟩ <;> rcases h c (by simp) with rfl | ⟨l, rfl⟩ <;> rfl
  | _ :: _ :: _ :: _ :: _, hl, _ => by simp at hl
section
variable {P : Program} {w : World} {K : PySem.W.Frag} {mg : Str → Option Value} {base : Heap}
theorem ok_truth_right (T : Txt K mg) : FnOk P w K mg base CX0 5 T.a_truth_right T.d_truth_right ["_law_predicate", "_law_row_here", "_law_due"] (spRight K) := by
  refine T.F_truth_right.ok sc__law_truth_right (fun vs H Q E h => ?_) (fun cdv A outer s H vs Q E hr h => ⟨_, (pss_one (ps_ret (pe_call (ok_alike T) (hr.mono (by decide)) (by rfl) T.g_alike T.F_alike.kp T.b_alike .nil pass0 (pa_cons (pe_lst (pa_cons (pe_call (ok_truth T) (hr.mono (by decide)) (by rfl) T.g_truth T.F_truth.kp T.b_truth .nil pass0 (pa_cons (pv 0) (pa_cons (pv 1) pa_nil))) (pa_cons (pe_call (ok_holds T) (hr.mono (by decide)) (by rfl) T.g_holds T.F_holds.kp T.b_holds .nil pass0 (pa_cons (pv 0) (pa_cons (pv 1) pa_nil))) pa_nil))) (pa_cons (pe_lst (pa_cons (pv 2) (pa_cons (pe_cmpR op_isW (pv 2) pe_bl (nomark _)) pa_nil))) pa_nil))))), ?_⟩)
  · first | (obtain ⟨rfl, _⟩ := h; rfl) | (obtain ⟨_, rfl, _⟩ := h; rfl) | (obtain ⟨_, _, rfl, _⟩ := h; rfl) | (obtain ⟨_, _, _, rfl, _⟩ := h; rfl) | (obtain ⟨_, _, _, _, rfl, _⟩ := h; rfl) | (obtain ⟨_, _, _, _, _, rfl, _⟩ := h; rfl) | (obtain ⟨_, _, _, _, _, _, rfl, _⟩ := h; rfl) | (obtain ⟨_, _, _, _, _, _, _, rfl, _⟩ := h; rfl) | (obtain ⟨_, _, _, _, _, _, _, _, rfl, _⟩ := h; rfl) | (obtain ⟨_, _, _, _, _, _, _, _, _, rfl, _⟩ := h; rfl)
  · obtain ⟨p, r, xs, c, f, us, v, rfl, hp, lf, hr2, hv, ni, k⟩ := h
    try dsimp only [cxOf, Cx.nox, Cx.wish]
    refine st_of (σ := [some _, some _, some _]) rfl ?_
    have nb := leaf_ok lf ni
    walk_at "rd"
    refine ⟨p, r, xs, c, f, us, v, rfl, hp, lf, hr2, hv, ni, ?_⟩
    walk_at "rd"
    refine ⟨p, r, xs, c, f, us, v, rfl, hp, lf, hr2, hv, ni, ?_⟩
    walk_at "rd"
    intro a1 h1
    walk_at "rd"
    refine r_isW nb ?_
    walk_at "rd"
    intro a2 h2
    walk_at "rd"
    refine use_alike (n := 1 + (1 + 0) + 1) (.lst (sql (by walk_at "hp")) (sql upd_same) (.cons (al_vnb nb) (.cons (.bl _) .nil))) (by decide) (fun H' s => k H' (Same.trans (by walk_at "sm") s))
theorem ok_law {f : Addr} {fd : FuncData} (F : Fun K "law" "law" s_law f fd) (T : Txt K mg) : FnOk P w K mg base CX0 6 f fd ["_law_script"] (spLaw K) := by
  refine F.ok sc_law (fun vs H Q E h => ?_) (fun cdv A outer s H vs Q E hr h => ⟨_, (pss_cons (ps_set (i := 1) sc_law.nd rfl (.inl rfl) (pe_call (ok_stream T) (hr.mono (by decide)) (by rfl) T.g_stream T.F_stream.kp T.b_stream .nil pass0 (pa_cons (pv 0) pa_nil)))
      (pss_cons (ps_set (i := 2) sc_law.nd rfl (.inl rfl) (pe_op op_add pe_int (pe_call (ok_draw T) (hr.mono (by decide)) (by rfl) T.g_draw T.F_draw.kp T.b_draw .nil pass0 (pa_cons (pv 1) (pa_cons pe_int pa_nil)))))
      (pss_cons (ps_set (i := 3) sc_law.nd rfl (.inl rfl) (pe_call (ok_pool T) (hr.mono (by decide)) (by rfl) T.g_pool T.F_pool.kp T.b_pool .nil pass0 (pa_cons (pv 1) (pa_cons (pv 2) pa_nil))))
      (pss_cons (ps_set (i := 4) sc_law.nd rfl (.inl rfl) (pe_call (ok_row T) (hr.mono (by decide)) (by rfl) T.g_row T.F_row.kp T.b_row .nil pass0 (pa_cons (pv 1) (pa_cons (pv 3) pa_nil))))
      (pss_cons (ps_set (i := 5) sc_law.nd rfl (.inl rfl) (pv 4))
      (Evl.pss_cut (ps_if (pt_cmpR op_eq (pe_call (ok_draw T) (hr.mono (by decide)) (by rfl) T.g_draw T.F_draw.kp T.b_draw .nil pass0 (pa_cons (pv 1) (pa_cons pe_int pa_nil))) pe_int (nomark _))
      (pss_one (ps_set (i := 5) sc_law.nd rfl (.inl rfl) (pe_callTy call_list_of (by rfl) T.z_list (by decide +kernel) (pa_cons (pv 4) pa_nil))))
      pss_nil)
      (pss_cons (ps_for PassesOwn.never rfl (pi_range1 (by rfl) T.z_range (pa_cons (pv 2) pa_nil)) (pg_name (i := 6) sc_law.nd rfl (.inl rfl))
      (pss_cons (ps_set (i := 7) sc_law.nd rfl (.inl rfl) (pe_ix ix_list (pe_ix ix_list (pv 3) (pv 6) (fun _ _ => rfl)) (pe_call (ok_draw T) (hr.mono (by decide)) (by rfl) T.g_draw T.F_draw.kp T.b_draw .nil pass0 (pa_cons (pv 1) (pa_cons (pe_callB call_len_seq (by rfl) T.z_len PySem.boot_len (pa_cons (pe_ix ix_list (pv 3) (pv 6) (fun _ _ => rfl)) pa_nil)) pa_nil))) (fun _ _ => rfl)))
      (pss_cons (ps_for PassesOwn.never rfl (pi_list (pe_lst (pa_cons pe_str (pa_cons pe_str (pa_cons pe_str (pa_cons pe_str (pa_cons pe_str (pa_cons pe_str pa_nil)))))))) (pg_name (i := 8) sc_law.nd rfl (.inl rfl))
      (pss_one (ps_if (pt_not (pt_val (pe_call (ok_truth_right T) (hr.mono (by decide)) (by rfl) T.g_truth_right T.F_truth_right.kp T.b_truth_right .nil pass0 (pa_cons (pe_tup (pa_cons (pv 8) (pa_cons (pv 6) (pa_cons (pv 7) pa_nil)))) (pa_cons (pv 5) (pa_cons (pe_call (ok_compared T) (hr.mono (by decide)) (by rfl) T.g_compared T.F_compared.kp T.b_compared .nil pass0 (pa_cons (pv 8) (pa_cons (pe_ix ix_tup (pv 4) (pv 6) (fun _ _ => rfl)) (pa_cons (pv 7) pa_nil)))) pa_nil))))))
      (pss_one (ps_ret pe_bl))
      pss_nil)))
      (pss_one (ps_if (pt_not (pt_val (pe_call (ok_truth_right T) (hr.mono (by decide)) (by rfl) T.g_truth_right T.F_truth_right.kp T.b_truth_right .nil pass0 (pa_cons (pe_tup (pa_cons pe_str (pa_cons (pv 6) pa_nil))) (pa_cons (pv 5) (pa_cons (pe_cmpR op_isN (pe_ix ix_tup (pv 4) (pv 6) (fun _ _ => rfl)) pe_non (nomark _)) pa_nil))))))
      (pss_one (ps_ret pe_bl))
      pss_nil)))))
      (pss_one (ps_ret (pe_cmpR (op_eqD hr.units) (pe_callTy call_tuple_of (by rfl) T.z_tuple (by decide +kernel) (pa_cons (pv 5) pa_nil)) (pv 4) (nomark _))))))))))), ?_⟩)
  · first | (obtain ⟨rfl, _⟩ := h; rfl) | (obtain ⟨_, rfl, _⟩ := h; rfl) | (obtain ⟨_, _, rfl, _⟩ := h; rfl) | (obtain ⟨_, _, _, rfl, _⟩ := h; rfl) | (obtain ⟨_, _, _, _, rfl, _⟩ := h; rfl) | (obtain ⟨_, _, _, _, _, rfl, _⟩ := h; rfl) | (obtain ⟨_, _, _, _, _, _, rfl, _⟩ := h; rfl) | (obtain ⟨_, _, _, _, _, _, _, rfl, _⟩ := h; rfl) | (obtain ⟨_, _, _, _, _, _, _, _, rfl, _⟩ := h; rfl) | (obtain ⟨_, _, _, _, _, _, _, _, _, rfl, _⟩ := h; rfl)
  · obtain ⟨a, ns, rfl, hS, hl, k⟩ := h
    try dsimp only [cxOf, Cx.nox, Cx.wish]
    refine st_of (σ := [some _, none, none, none, none, none, none, none, none]) rfl ?_
    walk_at "rd"
    refine ⟨a, ns, rfl, hS, hl, fun S L H1 _ _ st1 => ?_⟩
    walk_at "rd"
    refine use_draw st1 (by decide) (by decide) (fun w0 H2 w1 w2 x2 st2 => ?_)
    walk_at "rd"
    obtain ⟨wn, hw⟩ : ∃ wn : Nat, 1 + w0 = (wn : Int) := ⟨(1 + w0).toNat, by omega⟩
    rw [hw]
    refine ⟨S, L, ns, wn, rfl, st2, by omega, by omega, fun p qs H3 _ x3 st3 pl hlen => ?_⟩
    walk_at "rd"
    refine ⟨S, L, ns, p, qs, rfl, st3, pl, by omega, fun t us H4 _ x4 st4 ht hul ok ntS => ?_⟩
    walk_at "rd"
    have hus3 : us.length ≤ 3 := by omega
    have vni : ∀ v ∈ us, VNI v := fun v hv => row_vni ok hv
    have rest : True := trivial
    refine ⟨fun σ G => ∃ (hd : Addr), σ = [some (.ref a), some (.ref S), some (.int (wn : Int)), some (.ref p), some (.ref t), some (.ref hd), none, none, none] ∧ Strm S L ns G ∧ Ex S H4 G ∧ hd ≠ S ∧ (G hd = some (.lst us) ∨ G hd = some (.tup us)), ?_, ?_⟩
    · walk_at "rd"
      refine use_draw st4 (by decide) (by decide) (fun b H5 b0 b1 x5 st5 => ?_)
      have ht5 := x5 _ _ ntS ht
      walk_at "rd"
      refine i_d (fun hb => ?_) (fun hb => ?_)
      · walk_at "rd"
        intro hd hh
        walk_at "rd"
        exact ⟨st5.new hh, Ex.new x5 hh, st5.neS hh, .inl upd_same⟩
      · walk_at "rd"
        exact ⟨st5, x5, ntS, .inr ht5⟩
    · rintro σ G ⟨hd, rfl, stG, xG, nhS, hh⟩
      walk_at "rd"
      with_reducible refine c_rng1 ?_
      walk_at "rd"
      refine ⟨by omega, by omega, for_range (lo := 0) (n := wn) (fun i σ G' => ∃ (e6 e7 e8 : Option V), σ = [some (.ref a), some (.ref S), some (.int (wn : Int)), some (.ref p), some (.ref t), some (.ref hd), e6, e7, e8] ∧ Strm S L ns G' ∧ Ex S G G') ?_ ?_ ?_⟩
      · exact ⟨none, none, none, rfl, stG, Ex.refl _ _⟩
      · rintro i σ G' hi ⟨e6, e7, e8, rfl, stG', xG'⟩
        have plG := ((pl.ex x4).ex xG).ex xG'
        have hp1 := plG.at_
        have hil : i < qs.length := by omega
        have hiu : i < us.length := by omega
        have hqi : (qs.map V.ref)[i]? = some (.ref (qs[i])) := by
          rw [List.getElem?_map, List.getElem?_eq_getElem hil]
          rfl
        obtain ⟨ms, nm, m0⟩ := plG.each qs[i] (List.getElem_mem hil)
        generalize qs[i] = q at hqi nm
        have hui : us[i]? = some us[i] := List.getElem?_eq_getElem hiu
        have hvi : VNI us[i] := vni _ (List.getElem_mem hiu)
        generalize us[i] = v at hui hvi
        have hms := nm.at_
        have hm8 := nm.len
        rw [Int.zero_add]
        walk_at "rd"
        refine r_ixL (sql hp1) (atI_nat hqi) ?_
        walk_at "rd"
        refine r_ixL (sql hp1) (atI_nat hqi) ?_
        walk_at "rd"
        refine use_draw stG' (by rw [List.length_map]; omega) (by rw [List.length_map]; omega) (fun d G2 d0 d1 x2 st2 => ?_)
        rw [List.length_map] at d1
        have hdl : d.toNat < ms.length := by omega
        have hd' := map_at hdl
        have hms2 := (nm.ex x2).at_
        walk_at "rd"
        refine r_ixL (sql hms2) (at_of (j := d.toNat) (by omega) hd') ?_
        generalize ms[d.toNat] = z at hd'
        walk_at "rd"
        have hhG : ∀ G3, Ex S G2 G3 → (SqL K G3 hd us ∨ SqT K G3 hd us) := fun G3 x3 => by
          rcases hh with h | h
          · exact .inl (sql (x3 _ _ nhS (x2 _ _ nhS (xG' _ _ nhS h))))
          · exact .inr (sqt (x3 _ _ nhS (x2 _ _ nhS (xG' _ _ nhS h))))
        have htG : ∀ G3, Ex S G2 G3 → G3 t = some (.tup us) := fun G3 x3 => x3 _ _ ntS (x2 _ _ ntS (xG' _ _ ntS (xG _ _ ntS ht)))
        with_reducible refine c_forList ?_
        walk_at "rd"
        intro sl hsl
        have nsS := st2.neS hsl
        walk_at "rd"
        refine ⟨⟨_, sql upd_same⟩, for_list (xs := signs.map V.str) (fun j σ G3 => ∃ e8, σ = [some (.ref a), some (.ref S), some (.int (wn : Int)), some (.ref p), some (.ref t), some (.ref hd), some (.int (i : Int)), some (.int z), e8] ∧ Strm S L ns G3 ∧ Ex S G2 G3 ∧ G3 sl = some (.lst (signs.map V.str))) ?_ ?_ ?_ ?_⟩
        · exact ⟨e8, rfl, st2.new hsl, Ex.new (Ex.refl _ _) hsl, upd_same⟩
        · rintro j σ G3 _ ⟨_, _, _, _, h⟩
          exact sql h
        · rintro j y σ G3 hj ⟨e8, rfl, st3, x3, hsl3⟩
          obtain ⟨s, hs, rfl⟩ : ∃ s, s ∈ signs ∧ y = V.str s := by
            obtain ⟨s, b1, b2⟩ := List.mem_map.mp (List.mem_of_getElem? hj)
            exact ⟨s, b1, b2.symm⟩
          have ht3 := htG G3 x3
          walk_at "rd"
          intro tp htp
          walk_at "rd"
          refine r_ixT (sqt ((upd_ne (ne_of_none ht3 htp)).trans ht3)) (atI_nat hui) ?_
          walk_at "rd"
          refine ⟨s, v, z, rfl, hvi, ?_⟩
          walk_at "rd"
          refine ⟨tp, hd, _, i, (fun v => cmpV s v z), us, v, rfl, sqt upd_same, .cmp hs, hhG _ (Ex.new x3 htp), hui, hvi, fun G4 s4 => ?_⟩
          walk_at "rd"
          walk_at "tf"
          walk_at "rd"
          exact ⟨(st3.new htp).same s4, (Ex.new x3 htp).same s4, s4 _ _ ((upd_ne (ne_of_none hsl3 htp)).trans hsl3)⟩
        · rintro σ G3 ⟨e8, rfl, st3, x3, _⟩
          have ht3 := htG G3 x3
          walk_at "rd"
          intro tp htp
          walk_at "rd"
          refine r_ixT (sqt ((upd_ne (ne_of_none ht3 htp)).trans ht3)) (atI_nat hui) ?_
          walk_at "rd"
          refine ⟨tp, hd, _, i, (fun v => .bl (decide (v = .non))), us, v, rfl, sqt upd_same, .mis, hhG _ (Ex.new x3 htp), hui, hvi, fun G4 s4 => ?_⟩
          walk_at "rd"
          walk_at "tf"
          walk_at "rd"
          exact ⟨some (.int (i : Int)), some (.int z), e8, rfl, (st3.new htp).same s4, (xG'.trans x2).trans ((Ex.new x3 htp).same s4)⟩
      · rintro σ G' ⟨e6, e7, e8, rfl, stG', xG'⟩
        have htG : G' t = some (.tup us) := xG' _ _ ntS (xG _ _ ntS ht)
        have fin : ∀ (G2 : Hp) (q : Addr), G2 q = some (.tup us) → G2 t = some (.tup us) → rEqD K (.ref q) (.ref t) G2 Q := by
          intro G2 q h1 h2
          have sh := shaped_row us hus3 vni
          refine ⟨.tuple (us.map toD), .tuple (us.map toD), .tup (sqt h1) (dp_row us vni), .tup (sqt h2) (dp_row us vni), sh, sh, ?_⟩
          rw [SeqAt.eqv_refl _ (SeqAt.canLay_of_shaped sh)]
          exact k G2
        walk_at "rd"
        rcases hh with hh | hh
        · have hhG := xG' _ _ nhS hh
          refine ⟨hd, us, rfl, .inl ⟨sql hhG, fun q hq => ?_⟩⟩
          walk_at "rd"
          exact fin _ q upd_same ((upd_ne (ne_of_none htG hq)).trans htG)
        · have hhG := xG' _ _ nhS hh
          refine ⟨hd, us, rfl, .inr ⟨sqt hhG, ?_⟩⟩
          walk_at "rd"
          exact fin _ hd hhG htG
end
theorem all_mk {l : PySem.W.OpenLaw} {w : World} {K : PySem.W.Frag} {h : Heap} {mg : Str → Option Value} {fa : Addr} (X : K.In h) (G : h.Ns mainGlobals mg) (hfa : mg "law" = some (.ref fa))
    {f0 : Addr} {od0 an0 : Option Addr} {sl0 : Array (Option Value)} {oc0 kV0 dc0 pm0 cd0 ct0 : Value}
    {f1 : Addr} {od1 an1 : Option Addr} {sl1 : Array (Option Value)} {oc1 kV1 dc1 pm1 cd1 ct1 : Value}
    {f2 : Addr} {od2 an2 : Option Addr} {sl2 : Array (Option Value)} {oc2 kV2 dc2 pm2 cd2 ct2 : Value}
    {f3 : Addr} {od3 an3 : Option Addr} {sl3 : Array (Option Value)} {oc3 kV3 dc3 pm3 cd3 ct3 : Value}
    {f4 : Addr} {od4 an4 : Option Addr} {sl4 : Array (Option Value)} {oc4 kV4 dc4 pm4 cd4 ct4 : Value}
    {f5 : Addr} {od5 an5 : Option Addr} {sl5 : Array (Option Value)} {oc5 kV5 dc5 pm5 cd5 ct5 : Value}
    {f6 : Addr} {od6 an6 : Option Addr} {sl6 : Array (Option Value)} {oc6 kV6 dc6 pm6 cd6 ct6 : Value}
    {f7 : Addr} {od7 an7 : Option Addr} {sl7 : Array (Option Value)} {oc7 kV7 dc7 pm7 cd7 ct7 : Value}
    {f8 : Addr} {od8 an8 : Option Addr} {sl8 : Array (Option Value)} {oc8 kV8 dc8 pm8 cd8 ct8 : Value}
    {f9 : Addr} {od9 an9 : Option Addr} {sl9 : Array (Option Value)} {oc9 kV9 dc9 pm9 cd9 ct9 : Value}
    {f10 : Addr} {od10 an10 : Option Addr} {sl10 : Array (Option Value)} {oc10 kV10 dc10 pm10 cd10 ct10 : Value}
    {f11 : Addr} {od11 an11 : Option Addr} {sl11 : Array (Option Value)} {oc11 kV11 dc11 pm11 cd11 ct11 : Value}
    {f12 : Addr} {od12 an12 : Option Addr} {sl12 : Array (Option Value)} {oc12 kV12 dc12 pm12 cd12 ct12 : Value}
    {c_SIGNS : Addr}
    {dd_SIGNS : Option Addr} {nn_SIGNS : Nat} {ss_SIGNS : Array (Option Value)} {t_SIGNS_0 : Tok} {t_SIGNS_1 : Tok} {t_SIGNS_2 : Tok} {t_SIGNS_3 : Tok} {t_SIGNS_4 : Tok} {t_SIGNS_5 : Tok}
    (a0 : PySem.W.nsIn K mainGlobals "compares" = some (some (.ref f0)))
    (l0 : K.lookup f0 = some ⟨oc0, od0, .func (PySem.W.fnOf "compares" "compares" (defArgs s_compares) (defBody s_compares) (defScope s_compares) .none kV0 dc0 pm0 an0 cd0 ct0), sl0⟩)
    (c0 : PySem.W.codeIn K cd0 "compares" = true)
    (k0 : PySem.W.keepIn K (.ref f0) = true)
    (a1 : PySem.W.nsIn K mainGlobals "comparison_truth" = some (some (.ref f1)))
    (l1 : K.lookup f1 = some ⟨oc1, od1, .func (PySem.W.fnOf "comparison_truth" "comparison_truth" (defArgs s_comparison_truth) (defBody s_comparison_truth) (defScope s_comparison_truth) .none kV1 dc1 pm1 an1 cd1 ct1), sl1⟩)
    (c1 : PySem.W.codeIn K cd1 "comparison_truth" = true)
    (k1 : PySem.W.keepIn K (.ref f1) = true)
    (a2 : PySem.W.nsIn K mainGlobals "truth" = some (some (.ref f2)))
    (l2 : K.lookup f2 = some ⟨oc2, od2, .func (PySem.W.fnOf "truth" "truth" (defArgs s_truth) (defBody s_truth) (defScope s_truth) .none kV2 dc2 pm2 an2 cd2 ct2), sl2⟩)
    (c2 : PySem.W.codeIn K cd2 "truth" = true)
    (k2 : PySem.W.keepIn K (.ref f2) = true)
    (a3 : PySem.W.nsIn K mainGlobals "holds" = some (some (.ref f3)))
    (l3 : K.lookup f3 = some ⟨oc3, od3, .func (PySem.W.fnOf "holds" "holds" (defArgs s_holds) (defBody s_holds) (defScope s_holds) .none kV3 dc3 pm3 an3 cd3 ct3), sl3⟩)
    (c3 : PySem.W.codeIn K cd3 "holds" = true)
    (k3 : PySem.W.keepIn K (.ref f3) = true)
    (a4 : PySem.W.nsIn K mainGlobals "_law_stream" = some (some (.ref f4)))
    (l4 : K.lookup f4 = some ⟨oc4, od4, .func (PySem.W.fnOf "_law_stream" "_law_stream" (defArgs s__law_stream) (defBody s__law_stream) (defScope s__law_stream) .none kV4 dc4 pm4 an4 cd4 ct4), sl4⟩)
    (c4 : PySem.W.codeIn K cd4 "_law_stream" = true)
    (k4 : PySem.W.keepIn K (.ref f4) = true)
    (a5 : PySem.W.nsIn K mainGlobals "_law_draw" = some (some (.ref f5)))
    (l5 : K.lookup f5 = some ⟨oc5, od5, .func (PySem.W.fnOf "_law_draw" "_law_draw" (defArgs s__law_draw) (defBody s__law_draw) (defScope s__law_draw) .none kV5 dc5 pm5 an5 cd5 ct5), sl5⟩)
    (c5 : PySem.W.codeIn K cd5 "_law_draw" = true)
    (k5 : PySem.W.keepIn K (.ref f5) = true)
    (a6 : PySem.W.nsIn K mainGlobals "_law_number" = some (some (.ref f6)))
    (l6 : K.lookup f6 = some ⟨oc6, od6, .func (PySem.W.fnOf "_law_number" "_law_number" (defArgs s__law_number) (defBody s__law_number) (defScope s__law_number) .none kV6 dc6 pm6 an6 cd6 ct6), sl6⟩)
    (c6 : PySem.W.codeIn K cd6 "_law_number" = true)
    (k6 : PySem.W.keepIn K (.ref f6) = true)
    (a7 : PySem.W.nsIn K mainGlobals "_law_pool" = some (some (.ref f7)))
    (l7 : K.lookup f7 = some ⟨oc7, od7, .func (PySem.W.fnOf "_law_pool" "_law_pool" (defArgs s__law_pool) (defBody s__law_pool) (defScope s__law_pool) .none kV7 dc7 pm7 an7 cd7 ct7), sl7⟩)
    (c7 : PySem.W.codeIn K cd7 "_law_pool" = true)
    (k7 : PySem.W.keepIn K (.ref f7) = true)
    (a8 : PySem.W.nsIn K mainGlobals "_law_row" = some (some (.ref f8)))
    (l8 : K.lookup f8 = some ⟨oc8, od8, .func (PySem.W.fnOf "_law_row" "_law_row" (defArgs s__law_row) (defBody s__law_row) (defScope s__law_row) .none kV8 dc8 pm8 an8 cd8 ct8), sl8⟩)
    (c8 : PySem.W.codeIn K cd8 "_law_row" = true)
    (k8 : PySem.W.keepIn K (.ref f8) = true)
    (a9 : PySem.W.nsIn K mainGlobals "_law_compared" = some (some (.ref f9)))
    (l9 : K.lookup f9 = some ⟨oc9, od9, .func (PySem.W.fnOf "_law_compared" "_law_compared" (defArgs s__law_compared) (defBody s__law_compared) (defScope s__law_compared) .none kV9 dc9 pm9 an9 cd9 ct9), sl9⟩)
    (c9 : PySem.W.codeIn K cd9 "_law_compared" = true)
    (k9 : PySem.W.keepIn K (.ref f9) = true)
    (a10 : PySem.W.nsIn K mainGlobals "_law_alike" = some (some (.ref f10)))
    (l10 : K.lookup f10 = some ⟨oc10, od10, .func (PySem.W.fnOf "_law_alike" "_law_alike" (defArgs s__law_alike) (defBody s__law_alike) (defScope s__law_alike) .none kV10 dc10 pm10 an10 cd10 ct10), sl10⟩)
    (c10 : PySem.W.codeIn K cd10 "_law_alike" = true)
    (k10 : PySem.W.keepIn K (.ref f10) = true)
    (a11 : PySem.W.nsIn K mainGlobals "_law_truth_right" = some (some (.ref f11)))
    (l11 : K.lookup f11 = some ⟨oc11, od11, .func (PySem.W.fnOf "_law_truth_right" "_law_truth_right" (defArgs s__law_truth_right) (defBody s__law_truth_right) (defScope s__law_truth_right) .none kV11 dc11 pm11 an11 cd11 ct11), sl11⟩)
    (c11 : PySem.W.codeIn K cd11 "_law_truth_right" = true)
    (k11 : PySem.W.keepIn K (.ref f11) = true)
    (a12 : PySem.W.nsIn K mainGlobals "law" = some (some (.ref f12)))
    (l12 : K.lookup f12 = some ⟨oc12, od12, .func (PySem.W.fnOf "law" "law" (defArgs s_law) (defBody s_law) (defScope s_law) .none kV12 dc12 pm12 an12 cd12 ct12), sl12⟩)
    (c12 : PySem.W.codeIn K cd12 "law" = true)
    (k12 : PySem.W.keepIn K (.ref f12) = true)
    (g_SIGNS : PySem.W.nsIn K mainGlobals "SIGNS" = some (some (.ref c_SIGNS)))
    (l_SIGNS : K.lookup c_SIGNS = some ⟨.type "tuple", dd_SIGNS, .seq #[.str "<" t_SIGNS_0, .str "<=" t_SIGNS_1, .str "=" t_SIGNS_2, .str "!=" t_SIGNS_3, .str ">=" t_SIGNS_4, .str ">" t_SIGNS_5] nn_SIGNS, ss_SIGNS⟩)
    (z_abs : PySem.W.nsIn K mainGlobals "abs" = some none)
    (z_bool : PySem.W.nsIn K mainGlobals "bool" = some none)
    (z_int : PySem.W.nsIn K mainGlobals "int" = some none)
    (z_isinstance : PySem.W.nsIn K mainGlobals "isinstance" = some none)
    (z_len : PySem.W.nsIn K mainGlobals "len" = some none)
    (z_list : PySem.W.nsIn K mainGlobals "list" = some none)
    (z_range : PySem.W.nsIn K mainGlobals "range" = some none)
    (z_str : PySem.W.nsIn K mainGlobals "str" = some none)
    (z_tuple : PySem.W.nsIn K mainGlobals "tuple" = some none) :
    ∃ fd : FuncData, (∀ (s : Shared) (v : Value), BindsTo s fd ⟨[v], []⟩ [("_law_script", v)]) ∧ ∀ base : Heap, K.In base → base.Ns mainGlobals mg → FnOk l.prog w K mg base CX0 6 fa fd ["_law_script"] (spLaw K) := by
  have e := hfa.symm.trans (PySem.W.mg_of X G a12)
  cases e
  have F0 := fun_mk (st := s_compares) l0 c0 k0
  have b0 := F0.binds (ps := ["value", "sign", "number"]) fun _ _ _ _ _ _ us hl => match us, hl with | [_, _, _], _ => rfl
  have F1 := fun_mk (st := s_comparison_truth) l1 c1 k1
  have b1 := F1.binds (ps := ["value", "sign", "number"]) fun _ _ _ _ _ _ us hl => match us, hl with | [_, _, _], _ => rfl
  have F2 := fun_mk (st := s_truth) l2 c2 k2
  have b2 := F2.binds (ps := ["predicate", "row"]) fun _ _ _ _ _ _ us hl => match us, hl with | [_, _], _ => rfl
  have F3 := fun_mk (st := s_holds) l3 c3 k3
  have b3 := F3.binds (ps := ["predicate", "row"]) fun _ _ _ _ _ _ us hl => match us, hl with | [_, _], _ => rfl
  have F4 := fun_mk (st := s__law_stream) l4 c4 k4
  have b4 := F4.binds (ps := ["_law_script"]) fun _ _ _ _ _ _ us hl => match us, hl with | [_], _ => rfl
  have F5 := fun_mk (st := s__law_draw) l5 c5 k5
  have b5 := F5.binds (ps := ["_law_stream_here", "_law_many"]) fun _ _ _ _ _ _ us hl => match us, hl with | [_, _], _ => rfl
  have F6 := fun_mk (st := s__law_number) l6 c6 k6
  have b6 := F6.binds (ps := ["_law_stream_here", "_law_most"]) fun _ _ _ _ _ _ us hl => match us, hl with | [_, _], _ => rfl
  have F7 := fun_mk (st := s__law_pool) l7 c7 k7
  have b7 := F7.binds (ps := ["_law_stream_here", "_law_wide"]) fun _ _ _ _ _ _ us hl => match us, hl with | [_, _], _ => rfl
  have F8 := fun_mk (st := s__law_row) l8 c8 k8
  have b8 := F8.binds (ps := ["_law_stream_here", "_law_pool_here"]) fun _ _ _ _ _ _ us hl => match us, hl with | [_, _], _ => rfl
  have F9 := fun_mk (st := s__law_compared) l9 c9 k9
  have b9 := F9.binds (ps := ["_law_sign", "_law_value", "_law_number_here"]) fun _ _ _ _ _ _ us hl => match us, hl with | [_, _, _], _ => rfl
  have F10 := fun_mk (st := s__law_alike) l10 c10 k10
  have b10 := F10.binds (ps := ["_law_told", "_law_due"]) fun _ _ _ _ _ _ us hl => match us, hl with | [_, _], _ => rfl
  have F11 := fun_mk (st := s__law_truth_right) l11 c11 k11
  have b11 := F11.binds (ps := ["_law_predicate", "_law_row_here", "_law_due"]) fun _ _ _ _ _ _ us hl => match us, hl with | [_, _, _], _ => rfl
  have F12 := fun_mk (st := s_law) l12 c12 k12
  have T : Txt K mg := { a_compares := _, d_compares := _, F_compares := F0, b_compares := b0, g_compares := PySem.W.mg_of X G a0, a_comparison_truth := _, d_comparison_truth := _, F_comparison_truth := F1, b_comparison_truth := b1, g_comparison_truth := PySem.W.mg_of X G a1, a_truth := _, d_truth := _, F_truth := F2, b_truth := b2, g_truth := PySem.W.mg_of X G a2, a_holds := _, d_holds := _, F_holds := F3, b_holds := b3, g_holds := PySem.W.mg_of X G a3, a_stream := _, d_stream := _, F_stream := F4, b_stream := b4, g_stream := PySem.W.mg_of X G a4, a_draw := _, d_draw := _, F_draw := F5, b_draw := b5, g_draw := PySem.W.mg_of X G a5, a_number := _, d_number := _, F_number := F6, b_number := b6, g_number := PySem.W.mg_of X G a6, a_pool := _, d_pool := _, F_pool := F7, b_pool := b7, g_pool := PySem.W.mg_of X G a7, a_row := _, d_row := _, F_row := F8, b_row := b8, g_row := PySem.W.mg_of X G a8, a_compared := _, d_compared := _, F_compared := F9, b_compared := b9, g_compared := PySem.W.mg_of X G a9, a_alike := _, d_alike := _, F_alike := F10, b_alike := b10, g_alike := PySem.W.mg_of X G a10, a_truth_right := _, d_truth_right := _, F_truth_right := F11, b_truth_right := b11, g_truth_right := PySem.W.mg_of X G a11, c_SIGNS := _, g_SIGNS := PySem.W.mg_of X G g_SIGNS, l_SIGNS := fun H => .inr ⟨_, _, _, l_SIGNS, rfl, rfl, by rw [sizeLine_eq]; show 6 ≤ 16777216; decide, (.cons ⟨_, rfl⟩ (.cons ⟨_, rfl⟩ (.cons ⟨_, rfl⟩ (.cons ⟨_, rfl⟩ (.cons ⟨_, rfl⟩ (.cons ⟨_, rfl⟩ .nil))))))⟩, z_abs := PySem.W.mg_none_of X G z_abs, z_bool := PySem.W.mg_none_of X G z_bool, z_int := PySem.W.mg_none_of X G z_int, z_isinstance := PySem.W.mg_none_of X G z_isinstance, z_len := PySem.W.mg_none_of X G z_len, z_list := PySem.W.mg_none_of X G z_list, z_range := PySem.W.mg_none_of X G z_range, z_str := PySem.W.mg_none_of X G z_str, z_tuple := PySem.W.mg_none_of X G z_tuple }
  exact ⟨PySem.W.fnOf "law" "law" (defArgs s_law) (defBody s_law) (defScope s_law) .none kV12 dc12 pm12 an12 cd12 ct12, fun s v => .of_eq rfl, fun base _ _ => ok_law F12 T⟩
end Y
open PySem PySem.W PyProof.Rows
set_option maxHeartbeats 0 in
theorem PySem.Challenge.cw_wholepages_k07_comparisons_holds : PySem.Challenge.rw_wholepages_k07_comparisons.Holds := by
  w_on; o_law; k_head; (case hw => w_witness2)
  k_fill
  refine L2.walk_of (l := PySem.Challenge.rw_wholepages_k07_comparisons) (n := 63) (k := 6) (x := "_law_script") (CX := fun _ => L2.CX0) (sp := fun w => Y.spLaw _) rfl (by decide) rfl ⟨rfl, by decide, by decide⟩ (fun w h Y => PySem.W.kIn_of Y) ?F (fun _ _ a ns hl _ hS => ⟨a, ns, rfl, hS, hl, fun _ => rfl⟩) (fun _ _ _ _ _ h => h)
  case F =>
    intro w mg fa h KX G hmg
    refine' Y.all_mk KX G hmg ?a0 ?l0 ?c0 ?k0 ?a1 ?l1 ?c1 ?k1 ?a2 ?l2 ?c2 ?k2 ?a3 ?l3 ?c3 ?k3 ?a4 ?l4 ?c4 ?k4 ?a5 ?l5 ?c5 ?k5 ?a6 ?l6 ?c6 ?k6 ?a7 ?l7 ?c7 ?k7 ?a8 ?l8 ?c8 ?k8 ?a9 ?l9 ?c9 ?k9 ?a10 ?l10 ?c10 ?k10 ?a11 ?l11 ?c11 ?k11 ?a12 ?l12 ?c12 ?k12 ?g_SIGNS ?l_SIGNS ?z_abs ?z_bool ?z_int ?z_isinstance ?z_len ?z_list ?z_range ?z_str ?z_tuple
    (case a0 => k_is); (case l0 => k_is); (case c0 => k_is); (case k0 => k_is); (case a1 => k_is); (case l1 => k_is); (case c1 => k_is); (case k1 => k_is); (case a2 => k_is); (case l2 => k_is); (case c2 => k_is); (case k2 => k_is); (case a3 => k_is); (case l3 => k_is); (case c3 => k_is); (case k3 => k_is); (case a4 => k_is); (case l4 => k_is); (case c4 => k_is); (case k4 => k_is); (case a5 => k_is); (case l5 => k_is); (case c5 => k_is); (case k5 => k_is); (case a6 => k_is); (case l6 => k_is); (case c6 => k_is); (case k6 => k_is); (case a7 => k_is); (case l7 => k_is); (case c7 => k_is); (case k7 => k_is); (case a8 => k_is); (case l8 => k_is); (case c8 => k_is); (case k8 => k_is); (case a9 => k_is); (case l9 => k_is); (case c9 => k_is); (case k9 => k_is); (case a10 => k_is); (case l10 => k_is); (case c10 => k_is); (case k10 => k_is); (case a11 => k_is); (case l11 => k_is); (case c11 => k_is); (case k11 => k_is); (case a12 => k_is); (case l12 => k_is); (case c12 => k_is); (case k12 => k_is); (case g_SIGNS => k_is); (case l_SIGNS => k_is); (case z_abs => k_is); (case z_bool => k_is); (case z_int => k_is); (case z_isinstance => k_is); (case z_len => k_is); (case z_list => k_is); (case z_range => k_is); (case z_str => k_is); (case z_tuple => k_is)

