import PyProof.Rows.All
import Wide.All
import OpenK.AllK
import Wide.FinOn
import HandS.ForMost
import HandS.Wide
import HandS.IsInst
import HandS.EndBits
import HandS.Style
import HandS.SortInts
import HandS.Evl
import HandS.SetFor
import HandS.Strs
import HandS.TupMul
import HandS.SetBool
import PySem.Challenge.RW_wholepages_k12_numbers_of
set_option Elab.async false
set_option linter.all false
set_option maxRecDepth 100000
set_option maxHeartbeats 4000000

/-! ## Common: steps of a reading, heaps, the law's own helpers -/
namespace Y
open PySem PySem.Spec PyProof.Rows L2
/-! ### steps -/
section
variable {K : PySem.W.Frag} {σ : L2.St} {H : Hp} {D : Ends} {ta tb te tc : TE} {t u : TS} {c d : TT} {Q : VK} {R : Bool → Hp → Prop}
theorem c_seq (h : t { D with nx := u D } σ H) : tSeq t u D σ H := h
theorem st_of {t : TS} {σ0 : L2.St} (e : σ0 = σ) (h : t D σ H) : t D σ0 H := by
  rw [e]
  exact h
theorem c_next (h : D.nx σ H) : tNext D σ H := h
theorem c_asg {g : TG} (h : te σ H fun x H1 => g x σ H1 D.nx) : tAsg te g D σ H := h
theorem c_gname {i : Nat} {v : V} {Q : L2.St → Hp → Prop} (h : Q (σ.set i (some v)) H) : gName i v σ H Q := h
theorem c_gsub {to ti : TE} {s : TSet} {v : V} {Q : L2.St → Hp → Prop} (h : to σ H fun o H1 => ti σ H1 fun i H2 => s o i v H2 fun H3 => Q σ H3) : gSub to ti s v σ H Q := h
theorem c_drop (h : te σ H fun _ H1 => D.nx σ H1) : tDrop te D σ H := h
theorem c_ret (h : te σ H D.rt) : tRet te D σ H := h
theorem c_retN (h : D.rt .non H) : tRetN D σ H := h
theorem c_ifs (h : c σ H fun b H1 => if b = true then t D σ H1 else u D σ H1) : tIfS c t u D σ H := h
theorem c_var {i : Nat} {v : V} (e : σ[i]? = some (some v)) (h : Q v H) : tVar i σ H Q := ⟨v, e, h⟩
theorem c_c {v : V} (h : Q v H) : tC v σ H Q := h
theorem c_op {r : R2} (h : ta σ H fun x H1 => tb σ H1 fun y H2 => r x y H2 Q) : tOp r ta tb σ H Q := h
theorem c_un {r : V → Hp → VK → Prop} (h : ta σ H fun x H1 => r x H1 Q) : tUn r ta σ H Q := h
theorem c_test (h : te σ H fun x H1 => ∃ k, x = .bl k ∧ R k H1) : tTest te σ H R := h
theorem c_B (h : te σ H fun x H1 => ∃ k, x = .bl k ∧ R k H1) : tB te σ H R := h
theorem c_bl {k : Bool} (h : R k H) : ∃ k', V.bl k = .bl k' ∧ R k' H := ⟨k, rfl, h⟩
theorem c_and (h : c σ H fun b H1 => if b = true then d σ H1 R else R false H1) : tAnd c d σ H R := h
theorem c_or (h : c σ H fun b H1 => if b = true then R true H1 else d σ H1 R) : tOr c d σ H R := h
theorem c_not (h : c σ H fun b H1 => R (!b) H1) : tNot c σ H R := h
theorem c_andV (h : ta σ H fun x H1 => ∃ b, x = .bl b ∧ if b = true then tb σ H1 Q else Q (.bl false) H1) : tAndV ta tb σ H Q := h
theorem c_orV (h : ta σ H fun x H1 => ∃ b, x = .bl b ∧ if b = true then Q (.bl true) H1 else tb σ H1 Q) : tOrV ta tb σ H Q := h
theorem c_notV (h : ta σ H fun x H1 => ∃ b, x = .bl b ∧ Q (.bl (!b)) H1) : tNotV ta σ H Q := h
theorem c_if (h : c σ H fun b H1 => if b = true then ta σ H1 Q else tb σ H1 Q) : tIf c ta tb σ H Q := h
theorem c_CB {r : List V → Hp → VK → Prop} {t : TA} (h : t σ H fun vs H1 => r vs H1 Q) : tCB r t σ H Q := h
theorem c_nil {Q : List V → Hp → Prop} (h : Q [] H) : tNil σ H Q := h
theorem c_cons {tr : TA} {Q : List V → Hp → Prop} (h : ta σ H fun x H1 => tr σ H1 fun xs H2 => Q (x :: xs) H2) : tCons ta tr σ H Q := h
theorem c_call {sp : Sp} {dvs : List V} {E : XK} {t : TA} (h : t σ H fun vs H1 => sp (vs ++ dvs) H1 Q E) : tCall sp dvs E t σ H Q := h
theorem c_lst {t : TA} (h : t σ H fun xs H1 => xs.length ≤ sizeLine ∧ ∀ p, H1 p = none → Q (.ref p) (upd H1 p (.lst xs))) : tLst t σ H Q := h
theorem c_tup {t : TA} (h : t σ H fun xs H1 => xs.length ≤ sizeLine ∧ ∀ p, H1 p = none → Q (.ref p) (upd H1 p (.tup xs))) : tTup t σ H Q := h
theorem c_BM {T : String} {r : V → List V → Hp → VK → Prop} {to : TE} {t : TA} (h : to σ H fun x H1 => tyV K T x H1 ∧ t σ H1 fun xs H2 => r x xs H2 Q) : tBM K T r to t σ H Q := h
theorem c_BM0 {T : String} {r : V → List V → Hp → VK → Prop} {to : TE} (h : to σ H fun x H1 => tyV K T x H1 ∧ r x [] H1 Q) : tBM0 K T r to σ H Q := h
theorem c_chain {r r' : R2} (h : ta σ H fun x H1 => tb σ H1 fun y H2 => r x y H2 fun z H3 => ∃ k, z = .bl k ∧ if k = true then tc σ H3 fun w H4 => r' y w H4 Q else Q (.bl false) H3) : tChain r r' ta tb tc σ H Q := h
theorem c_for {wi : TI} {g : TG} {D : Ends} {xs : List V} {a : Addr} (hx : SqL K H a xs)
    (h : ∃ W : Nat → Nat → L2.St → Hp → Prop, (∃ m, W 0 m σ H) ∧ ∀ i m σ H, W i m σ H →
      ((Itl K a).stop i H ∧ D.nx σ H) ∨ ((Itl K a).go i H ∧ ∃ N : L2.St → Hp → Prop, (∀ σ' H', N σ' H' → ∃ m', m' < m ∧ W (i + 1) m' σ' H') ∧ ∀ x H', (Itl K a).yld i H x H' → g x σ H' fun σ2 H2 => t { D with nx := N, ct := N, bk := D.nx } σ2 H2)) :
    ∃ a', V.ref a = .ref a' ∧ (∃ xs, SqL K H a' xs) ∧ ∃ W : Nat → Nat → L2.St → Hp → Prop, (∃ m, W 0 m σ H) ∧ ∀ i m σ H, W i m σ H →
      ((Itl K a').stop i H ∧ D.nx σ H) ∨ ((Itl K a').go i H ∧ ∃ N : L2.St → Hp → Prop, (∀ σ' H', N σ' H' → ∃ m', m' < m ∧ W (i + 1) m' σ' H') ∧ ∀ x H', (Itl K a').yld i H x H' → g x σ H' fun σ2 H2 => t { D with nx := N, ct := N, bk := D.nx } σ2 H2) := ⟨a, rfl, ⟨xs, hx⟩, h⟩
/-- for x in xs, by what holds ahead of each turn -/
theorem c_forL {tl : TE} {g : TG} (h : tl σ H fun x H1 => ∃ a xs, x = .ref a ∧ SqL K H1 a xs ∧ ∃ Pv : Nat → L2.St → Hp → Prop, Pv 0 σ H1 ∧ (∀ i σ H, i ≤ xs.length → Pv i σ H → SqL K H a xs) ∧
      (∀ i x σ H, xs[i]? = some x → Pv i σ H → g x σ H fun σ2 H2 => t { D with nx := Pv (i + 1), ct := Pv (i + 1), bk := D.nx } σ2 H2) ∧ (∀ σ H, Pv xs.length σ H → D.nx σ H))
    (mono : ∀ Q Q' : VK, (∀ v H, Q v H → Q' v H) → tl σ H Q → tl σ H Q') : tFor (iList K tl) g t D σ H := by
  refine mono _ _ (fun v H1 h => ?_) h
  obtain ⟨a, xs, rfl, hx, Pv, h0, hl, hs, hd⟩ := h
  exact ⟨a, rfl, ⟨xs, hx⟩, for_list (xs := xs) Pv h0 hl hs hd⟩
theorem c_rng1 {ta : TA} {g : TG} (h : ta σ H fun vs H1 => ∃ j : Int, vs = [.int j] ∧ -(2 ^ 62) ≤ j ∧ j < 2 ^ 62 ∧ ∃ W : Nat → Nat → L2.St → Hp → Prop, (∃ m, W 0 m σ H1) ∧ ∀ i m σ H, W i m σ H →
      ((Itr 0 j.toNat).stop i H ∧ D.nx σ H) ∨ ((Itr 0 j.toNat).go i H ∧ ∃ N : L2.St → Hp → Prop, (∀ σ' H', N σ' H' → ∃ m', m' < m ∧ W (i + 1) m' σ' H') ∧ ∀ x H', (Itr 0 j.toNat).yld i H x H' → g x σ H' fun σ2 H2 => t { D with nx := N, ct := N, bk := D.nx } σ2 H2)) :
    tFor (iRng1 ta) g t D σ H := h
theorem c_forList {tl : TE} {g : TG} (h : tl σ H fun x H1 => ∃ a, x = .ref a ∧ (∃ xs, SqL K H1 a xs) ∧ ∃ W : Nat → Nat → L2.St → Hp → Prop, (∃ m, W 0 m σ H1) ∧ ∀ i m σ H, W i m σ H →
      ((Itl K a).stop i H ∧ D.nx σ H) ∨ ((Itl K a).go i H ∧ ∃ N : L2.St → Hp → Prop, (∀ σ' H', N σ' H' → ∃ m', m' < m ∧ W (i + 1) m' σ' H') ∧ ∀ x H', (Itl K a).yld i H x H' → g x σ H' fun σ2 H2 => t { D with nx := N, ct := N, bk := D.nx } σ2 H2)) :
    tFor (iList K tl) g t D σ H := h
theorem c_forTup {tl : TE} {g : TG} (h : tl σ H fun x H1 => ∃ a, x = .ref a ∧ (∃ xs, SqT K H1 a xs) ∧ ∃ W : Nat → Nat → L2.St → Hp → Prop, (∃ m, W 0 m σ H1) ∧ ∀ i m σ H, W i m σ H →
      ((Itt K a).stop i H ∧ D.nx σ H) ∨ ((Itt K a).go i H ∧ ∃ N : L2.St → Hp → Prop, (∀ σ' H', N σ' H' → ∃ m', m' < m ∧ W (i + 1) m' σ' H') ∧ ∀ x H', (Itt K a).yld i H x H' → g x σ H' fun σ2 H2 => t { D with nx := N, ct := N, bk := D.nx } σ2 H2)) :
    tFor (iTup K tl) g t D σ H := h
/-! operators by values -/
theorem r_I0 {g : Int → Int → V} {i j : Int} (h : Q (g i j) H) : rI0 g (.int i) (.int j) H Q := ⟨i, j, rfl, rfl, h⟩
theorem r_I {C : Int → Int → Prop} {g : Int → Int → V} {i j : Int} (hc : C i j) (h : Q (g i j) H) : rI C g (.int i) (.int j) H Q := ⟨i, j, rfl, rfl, hc, h⟩
theorem r_U {g : Int → V} {i : Int} (h : Q (g i) H) : rU g (.int i) H Q := ⟨i, rfl, h⟩
theorem dec_int {i j : Int} : decide (V.int i = V.int j) = decide (i = j) := by
  by_cases h : i = j
  · rw [decide_eq_true h, h, decide_eq_true rfl]
  · rw [decide_eq_false h, decide_eq_false fun z => h (V.int.inj z)]
theorem dec_bl {i j : Bool} : decide (V.bl i = V.bl j) = decide (i = j) := by cases i <;> cases j <;> rfl
theorem dec_str {i j : Str} : decide (V.str i = V.str j) = decide (i = j) := by
  by_cases h : i = j
  · rw [decide_eq_true h, h, decide_eq_true rfl]
  · rw [decide_eq_false h, decide_eq_false fun z => h (V.str.inj z)]
theorem r_eqI {i j : Int} (h : Q (.bl (decide (i = j))) H) : rEq (.int i) (.int j) H Q := ⟨rfl, by rw [dec_int]; exact h⟩
theorem r_neI {i j : Int} (h : Q (.bl (!decide (i = j))) H) : rNe (.int i) (.int j) H Q := ⟨rfl, by rw [dec_int]; exact h⟩
theorem r_eqB {i j : Bool} (h : Q (.bl (decide (i = j))) H) : rEq (.bl i) (.bl j) H Q := ⟨rfl, by rw [dec_bl]; exact h⟩
theorem r_neB {i j : Bool} (h : Q (.bl (!decide (i = j))) H) : rNe (.bl i) (.bl j) H Q := ⟨rfl, by rw [dec_bl]; exact h⟩
theorem r_eqS {i j : Str} (h : Q (.bl (decide (i = j))) H) : rEq (.str i) (.str j) H Q := ⟨rfl, by rw [dec_str]; exact h⟩
theorem r_neS {i j : Str} (h : Q (.bl (!decide (i = j))) H) : rNe (.str i) (.str j) H Q := ⟨rfl, by rw [dec_str]; exact h⟩
theorem r_isN {x : V} (h : Q (.bl (decide (x = .non))) H) : (fun (x y : V) (H : Hp) (Q : VK) => y = .non ∧ Q (.bl (decide (x = .non))) H) x .non H Q := ⟨rfl, h⟩
theorem r_ixL {p : Addr} {xs : List V} {i : Int} {v : V} (hx : SqL K H p xs) (ha : atI xs i = some v) (h : Q v H) : rIxL K (.ref p) (.int i) H Q := ⟨p, xs, i, v, rfl, rfl, hx, ha, h⟩
theorem r_ixT {p : Addr} {xs : List V} {i : Int} {v : V} (hx : SqT K H p xs) (ha : atI xs i = some v) (h : Q v H) : rIxT K (.ref p) (.int i) H Q := ⟨p, xs, i, v, rfl, rfl, hx, ha, h⟩
theorem r_inL {n : Bool} {p : Addr} {x : V} {xs : List V} (hx : SqL K H p xs) (h1 : flatV x = true) (h2 : xs.all flatV = true) (h : Q (.bl (if n then !inV x xs else inV x xs)) H) : rIn K n x (.ref p) H Q := ⟨p, xs, rfl, .inl hx, h1, h2, h⟩
theorem r_inT {n : Bool} {p : Addr} {x : V} {xs : List V} (hx : SqT K H p xs) (h1 : flatV x = true) (h2 : xs.all flatV = true) (h : Q (.bl (if n then !inV x xs else inV x xs)) H) : rIn K n x (.ref p) H Q := ⟨p, xs, rfl, .inr hx, h1, h2, h⟩
theorem r_lenL {p : Addr} {xs : List V} (hx : SqL K H p xs) (h : Q (.int xs.length) H) : (fun (xs : List V) (H : Hp) (Q : VK) => ∃ p ys, xs = [.ref p] ∧ (SqL K H p ys ∨ SqT K H p ys) ∧ Q (.int ys.length) H) [.ref p] H Q := ⟨p, xs, rfl, .inl hx, h⟩
theorem r_lenT {p : Addr} {xs : List V} (hx : SqT K H p xs) (h : Q (.int xs.length) H) : (fun (xs : List V) (H : Hp) (Q : VK) => ∃ p ys, xs = [.ref p] ∧ (SqL K H p ys ∨ SqT K H p ys) ∧ Q (.int ys.length) H) [.ref p] H Q := ⟨p, xs, rfl, .inr hx, h⟩
theorem r_app {p : Addr} {xs : List V} {y : V} (hx : H p = some (.lst xs)) (hl : xs.length < sizeLine) (h : Q .non (upd H p (.lst (xs ++ [y])))) : rAppend (.ref p) [y] H Q := ⟨p, xs, y, rfl, rfl, hx, hl, h⟩
theorem r_pop {p : Addr} {xs : List V} {y : V} (hx : H p = some (.lst (xs ++ [y]))) (h : Q y (upd H p (.lst xs))) : rPop (.ref p) [] H Q :=
  ⟨p, xs ++ [y], y, rfl, rfl, hx, by simp, by rw [List.dropLast_concat]; exact h⟩
theorem r_setL {p : Addr} {xs : List V} {i : Int} {j : Nat} {v : V} {Q : Hp → Prop} (hx : H p = some (.lst xs)) (hj : ixN xs.length i = some j) (h : Q (upd H p (.lst (xs.set j v)))) : rSetL (.ref p) (.int i) v H Q := ⟨p, xs, i, j, rfl, rfl, hx, hj, h⟩
theorem r_pow18 {H : Hp} {Q : VK} (h : Q (.int 1000000000000000000) H) : rI CPow (fun i j => .int (i ^ j.toNat)) (.int 10) (.int 18) H Q := r_I ⟨by decide, by decide, by decide⟩ h
theorem r_pow17 {H : Hp} {Q : VK} (h : Q (.int 100000000000000000) H) : rI CPow (fun i j => .int (i ^ j.toNat)) (.int 10) (.int 17) H Q := r_I ⟨by decide, by decide, by decide⟩ h
theorem ixn {n j : Nat} (h : j < n) : ixN n (j : Int) = some j := by
  unfold ixN
  rw [if_pos (by omega), if_pos (by omega)]
  rfl
theorem map_at {ns : List Int} {i : Nat} (h : i < ns.length) : (ns.map V.int)[i]? = some (.int ns[i]) := by
  rw [List.getElem?_map, List.getElem?_eq_getElem h]
  rfl
theorem r_tyL {p : Addr} {xs : List V} (hx : SqL K H p xs) {B : Prop} (h : B) : tyV K "list" (.ref p) H ∧ B := ⟨.inl ⟨rfl, _, hx⟩, h⟩
end
/-! ### tests -/
theorem i_T {b : Bool} {A B : Prop} (hb : b = true) (h : A) : if b = true then A else B := by
  rw [if_pos hb]
  exact h
theorem i_F {b : Bool} {A B : Prop} (hb : b = false) (h : B) : if b = true then A else B := by
  rw [hb, if_neg Bool.false_ne_true]
  exact h
theorem i_2 {b : Bool} {A B : Prop} (h1 : b = true → A) (h2 : b = false → B) : if b = true then A else B := by
  cases b with
  | true => exact i_T rfl (h1 rfl)
  | false => exact i_F rfl (h2 rfl)
theorem i_d {p : Prop} [Decidable p] {A B : Prop} (h1 : p → A) (h2 : ¬ p → B) : if decide p = true then A else B := by
  by_cases h : p
  · exact i_T (decide_eq_true h) (h1 h)
  · exact i_F (decide_eq_false h) (h2 h)
theorem i_n {p : Prop} [Decidable p] {A B : Prop} (h1 : ¬ p → A) (h2 : p → B) : if (!decide p) = true then A else B := by
  by_cases h : p
  · exact i_F (by rw [decide_eq_true h]; rfl) (h2 h)
  · exact i_T (by rw [decide_eq_false h]; rfl) (h1 h)
theorem small {n : Nat} (h : n ≤ 100000) : n ≤ sizeLine := Nat.le_trans h (by decide)
theorem smallLt {n : Nat} (h : n < 100000) : n < sizeLine := Nat.lt_of_lt_of_le h (by decide)
/-! ### heaps: what stays but at S -/
def Ex (S : Addr) (H H' : Hp) : Prop := ∀ a o, a ≠ S → H a = some o → H' a = some o
theorem Ex.refl (S : Addr) (H : Hp) : Ex S H H := fun _ _ _ h => h
theorem Ex.trans {S : Addr} {H H1 H2 : Hp} (a : Ex S H H1) (b : Ex S H1 H2) : Ex S H H2 := fun x o n h => b x o n (a x o n h)
theorem Ex.new {S : Addr} {H H1 : Hp} {p : Addr} {o : HO} (e : Ex S H H1) (h : H1 p = none) : Ex S H (upd H1 p o) := fun a u n ha => by
  rw [upd_ne (ne_of_none (e a u n ha) h)]
  exact e a u n ha
theorem Ex.mut {S : Addr} {H H1 : Hp} {p : Addr} {o : HO} (e : Ex S H H1) (h : H p = none) : Ex S H (upd H1 p o) := fun a u n ha => by
  rw [upd_ne (ne_of_none ha h)]
  exact e a u n ha
theorem Ex.at {S : Addr} {H H1 : Hp} {o : HO} (e : Ex S H H1) : Ex S H (upd H1 S o) := fun a u n ha => by
  rw [upd_ne n]
  exact e a u n ha
theorem Ex.same {S : Addr} {H H1 H2 : Hp} (e : Ex S H H1) (s : Same H1 H2) : Ex S H H2 := fun a u n ha => s a u (e a u n ha)
theorem same_new {H H1 : Hp} {p : Addr} {o : HO} (e : Same H H1) (h : H1 p = none) : Same H (upd H1 p o) := fun a u ha => by
  rw [upd_ne (ne_of_none (e a u ha) h)]
  exact e a u ha
theorem same_mut {H H1 : Hp} {p : Addr} {o : HO} (e : Same H H1) (h : H p = none) : Same H (upd H1 p o) := fun a u ha => by
  rw [upd_ne (ne_of_none ha h)]
  exact e a u ha
theorem same_tup {K : PySem.W.Frag} {H H' : Hp} {a : Addr} {xs : List V} (e : Same H H') (h : SqT K H a xs) : SqT K H' a xs := by
  rcases h with (h | ⟨o, h⟩) | h
  · exact .inl (.inl (e _ _ h))
  · exact .inl (.inr ⟨o, e _ _ h⟩)
  · exact .inr h
theorem Ex.seq {K : PySem.W.Frag} {S : Addr} {H H' : Hp} {a : Addr} {xs : List V} (e : Ex S H H') (n : a ≠ S) (h : SqL K H a xs) : SqL K H' a xs := by
  rcases h with (h | ⟨o, h⟩) | h
  · exact .inl (.inl (e _ _ n h))
  · exact .inl (.inr ⟨o, e _ _ n h⟩)
  · exact .inr h
theorem Ex.tup {K : PySem.W.Frag} {S : Addr} {H H' : Hp} {a : Addr} {xs : List V} (e : Ex S H H') (n : a ≠ S) (h : SqT K H a xs) : SqT K H' a xs := by
  rcases h with (h | ⟨o, h⟩) | h
  · exact .inl (.inl (e _ _ n h))
  · exact .inl (.inr ⟨o, e _ _ n h⟩)
  · exact .inr h
theorem sql {K : PySem.W.Frag} {H : Hp} {a : Addr} {xs : List V} (h : H a = some (.lst xs)) : SqL K H a xs := .inl (.inl h)
theorem sqt {K : PySem.W.Frag} {H : Hp} {a : Addr} {xs : List V} (h : H a = some (.tup xs)) : SqT K H a xs := .inl (.inl h)

theorem seq' {K : PySem.W.Frag} {H H' : Hp} {a : Addr} {xs : List V} (h : SqL K H a xs) (e : Same H H') : SqL K H' a xs := e.seq h
theorem tup' {K : PySem.W.Frag} {H H' : Hp} {a : Addr} {xs : List V} (h : SqT K H a xs) (e : Same H H') : SqT K H' a xs := same_tup e h
theorem same_at {H H' : Hp} {a : Addr} {o : HO} (e : Same H H') (h : H a = some o) : H' a = some o := e _ _ h
theorem ex_at {S : Addr} {H H' : Hp} {a : Addr} {o : HO} (e : Ex S H H') (n : a ≠ S) (h : H a = some o) : H' a = some o := e _ _ n h
theorem ne_nn {H : Hp} {a b : Addr} {o : HO} (h' : H b = none) (h : H a = some o) : a ≠ b := ne_of_none h h'
theorem ne_nn' {H : Hp} {a b : Addr} {o : HO} (h' : H b = none) (h : H a = some o) : b ≠ a := (ne_of_none h h').symm
section
variable {K : PySem.W.Frag} {σ : L2.St} {H : Hp} {tb te : TE} {c : TT} {Q : VK} {g : TG} {vs : List Nat}
theorem c_lcT (h : te σ H fun x H1 => ∃ a, x = .ref a ∧ (∃ xs, SqT K H1 a xs) ∧ ∀ D, H1 D = none → ∃ W : Nat → Nat → Hp → Prop, (∃ m, W 0 m (upd H1 D (.lst []))) ∧ ∀ i m G, W i m G →
      ((Itt K a).stop i G ∧ Q (.ref D) G) ∨ ((Itt K a).go i G ∧ ∃ Nx : Hp → Prop, (∀ G', Nx G' → ∃ m', m' < m ∧ W (i + 1) m' G') ∧ ∀ x G', (Itt K a).yld i G x G' → g x (wipe σ vs) G' fun σ2 H2 => wipe σ2 vs = wipe σ vs ∧ c σ2 H2 fun b H3 =>
        if b = true then tb σ2 H3 fun y H4 => ∃ acc, H4 D = some (.lst acc) ∧ acc.length < sizeLine ∧ Nx (upd H4 D (.lst (acc ++ [y]))) else Nx H3)) : tLc (iTup K te) g c tb vs σ H Q := h
theorem c_lcL (h : te σ H fun x H1 => ∃ a, x = .ref a ∧ (∃ xs, SqL K H1 a xs) ∧ ∀ D, H1 D = none → ∃ W : Nat → Nat → Hp → Prop, (∃ m, W 0 m (upd H1 D (.lst []))) ∧ ∀ i m G, W i m G →
      ((Itl K a).stop i G ∧ Q (.ref D) G) ∨ ((Itl K a).go i G ∧ ∃ Nx : Hp → Prop, (∀ G', Nx G' → ∃ m', m' < m ∧ W (i + 1) m' G') ∧ ∀ x G', (Itl K a).yld i G x G' → g x (wipe σ vs) G' fun σ2 H2 => wipe σ2 vs = wipe σ vs ∧ c σ2 H2 fun b H3 =>
        if b = true then tb σ2 H3 fun y H4 => ∃ acc, H4 D = some (.lst acc) ∧ acc.length < sizeLine ∧ Nx (upd H4 D (.lst (acc ++ [y]))) else Nx H3)) : tLc (iList K te) g c tb vs σ H Q := h
theorem c_lcR {ta : TA} (h : ta σ H fun us H1 => ∃ j : Int, us = [.int j] ∧ -(2 ^ 62) ≤ j ∧ j < 2 ^ 62 ∧ ∀ D, H1 D = none → ∃ W : Nat → Nat → Hp → Prop, (∃ m, W 0 m (upd H1 D (.lst []))) ∧ ∀ i m G, W i m G →
      ((Itr 0 j.toNat).stop i G ∧ Q (.ref D) G) ∨ ((Itr 0 j.toNat).go i G ∧ ∃ Nx : Hp → Prop, (∀ G', Nx G' → ∃ m', m' < m ∧ W (i + 1) m' G') ∧ ∀ x G', (Itr 0 j.toNat).yld i G x G' → g x (wipe σ vs) G' fun σ2 H2 => wipe σ2 vs = wipe σ vs ∧ c σ2 H2 fun b H3 =>
        if b = true then tb σ2 H3 fun y H4 => ∃ acc, H4 D = some (.lst acc) ∧ acc.length < sizeLine ∧ Nx (upd H4 D (.lst (acc ++ [y]))) else Nx H3)) : tLc (iRng1 ta) g c tb vs σ H Q := h
theorem c_yes {R : Bool → Hp → Prop} (h : R true H) : tYes σ H R := h
theorem in_bl (b : Bool) : ∀ bs : List Bool, inV (.bl b) (bs.map V.bl) = bs.contains b
  | [] => rfl
  | x :: r => by
    have ih := in_bl b r
    unfold inV at ih ⊢
    rw [List.map_cons, List.any_cons, ih, List.contains_cons]
    congr 1
    cases b <;> cases x <;> rfl
theorem flat_bl : ∀ bs : List Bool, (bs.map V.bl).all flatV = true
  | [] => rfl
  | x :: r => by
    rw [List.map_cons, List.all_cons, flat_bl r]
    rfl
end
/-! x is True, x is False where x may be None -/
def rIsW : R2 := fun x y H Q => ∃ b : Bool, y = .bl b ∧ (x = .non ∨ ∃ a, x = .bl a) ∧ Q (.bl (decide (x = .bl b))) H
def rNotW : R2 := fun x y H Q => ∃ b : Bool, y = .bl b ∧ (x = .non ∨ ∃ a, x = .bl a) ∧ Q (.bl (!decide (x = .bl b))) H
theorem op_isW {X : Cx} : OpR X (compareOp .Is) rIsW := by
  intro pins s σ H x y v u Q I rx ry h
  obtain ⟨b, rfl, hx, q⟩ := h
  cases (show u = Value.bool b from ry)
  rcases hx with rfl | ⟨a, rfl⟩
  · cases (show v = Value.none from rx)
    exact wpAny_is_other rfl (fun z => nomatch z) ⟨.bl false, H, I, rfl, by simpa using q⟩
  · cases (show v = Value.bool a from rx)
    by_cases e : a = b
    · subst e
      exact wpAny_is_self rfl ⟨.bl true, H, I, rfl, by simpa using q⟩
    · exact wpAny_is_other rfl (fun z => e (Value.bool.inj z)) ⟨.bl false, H, I, rfl, by simpa [e] using q⟩
theorem op_notW {X : Cx} : OpR X (compareOp .IsNot) rNotW := by
  intro pins s σ H x y v u Q I rx ry h
  obtain ⟨b, rfl, hx, q⟩ := h
  cases (show u = Value.bool b from ry)
  rcases hx with rfl | ⟨a, rfl⟩
  · cases (show v = Value.none from rx)
    exact wpAny_isNot_other rfl (fun z => nomatch z) ⟨.bl true, H, I, rfl, by simpa using q⟩
  · cases (show v = Value.bool a from rx)
    by_cases e : a = b
    · subst e
      exact wpAny_isNot_self rfl ⟨.bl false, H, I, rfl, by simpa using q⟩
    · exact wpAny_isNot_other rfl (fun z => e (Value.bool.inj z)) ⟨.bl true, H, I, rfl, by simpa [e] using q⟩
theorem r_isW {x : V} {b : Bool} {H : Hp} {Q : VK} (hx : x = .non ∨ ∃ a, x = .bl a) (q : Q (.bl (decide (x = .bl b))) H) : rIsW x (.bl b) H Q := ⟨b, rfl, hx, q⟩
theorem r_notW {x : V} {b : Bool} {H : Hp} {Q : VK} (hx : x = .non ∨ ∃ a, x = .bl a) (q : Q (.bl (!decide (x = .bl b))) H) : rNotW x (.bl b) H Q := ⟨b, rfl, hx, q⟩

/-! ### more steps: slices, truths that may be None, what is no list stays -/
section
variable {K : PySem.W.Frag} {σ : L2.St} {H : Hp} {ta te : TE} {Q : VK}
theorem c_sl {r : V → Option Int → Option Int → Hp → VK → Prop} {tl th : TO} (h : te σ H fun x H1 => tl σ H1 fun l H2 => th σ H2 fun u H3 => r x l u H3 Q) : tSl r te tl th σ H Q := h
theorem c_noPart {Q : Option Int → Hp → Prop} (h : Q none H) : tNoPart σ H Q := h
theorem c_part {Q : Option Int → Hp → Prop} (h : te σ H fun x H1 => ∃ i, x = .int i ∧ Q (some i) H1) : tPart te σ H Q := h
theorem r_slL {p : Addr} {xs : List V} {lo hi : Option Int} (hx : SqL K H p xs) (h : ∀ q, H q = none → Q (.ref q) (upd H q (.lst (cutV xs lo hi)))) : rSlL K (.ref p) lo hi H Q := ⟨p, xs, rfl, hx, h⟩
theorem r_slT {p : Addr} {xs : List V} {lo hi : Option Int} (hx : SqT K H p xs) (hn : ¬ (HT.sIx xs.length 0 lo = 0 ∧ HT.sIx xs.length xs.length hi = xs.length)) (h : ∀ q, H q = none → Q (.ref q) (upd H q (.tup (cutV xs lo hi)))) : rSlT K (.ref p) lo hi H Q := ⟨p, xs, rfl, hx, hn, h⟩
theorem r_cat {p q : Addr} {xs ys : List V} (hx : H p = some (.lst xs)) (hy : H q = some (.lst ys)) (hl : xs.length + ys.length ≤ sizeLine) (h : ∀ r, H r = none → Q (.ref r) (upd H r (.lst (xs ++ ys)))) : rCat (.ref p) (.ref q) H Q := ⟨p, q, xs, ys, rfl, rfl, hx, hy, hl, h⟩
theorem r_catT {p q : Addr} {xs ys : List V} (hx : SqT K H p xs) (hy : SqT K H q ys) (hn : xs ≠ []) (hl : xs.length + ys.length ≤ sizeLine) (h1 : ys = [] → Q (.ref p) H) (h2 : ys ≠ [] → ∀ r, H r = none → Q (.ref r) (upd H r (.tup (xs ++ ys)))) : rCatT K (.ref p) (.ref q) H Q := ⟨p, q, xs, ys, rfl, rfl, hx, hy, hn, hl, h1, h2⟩
end
/-- a truth: None, or a bool -/
def tb : Option Bool → V
  | none => .non
  | some b => .bl b
theorem in_tb (x : Option Bool) : ∀ bs : List (Option Bool), inV (tb x) (bs.map tb) = bs.contains x
  | [] => rfl
  | y :: r => by
    have ih := in_tb x r
    unfold inV at ih ⊢
    rw [List.map_cons, List.any_cons, ih, List.contains_cons]
    congr 1
    rcases x with _ | x <;> rcases y with _ | y <;> first | rfl | (cases x <;> rfl) | (cases y <;> rfl) | (cases x <;> cases y <;> rfl)
theorem flat_tb : ∀ bs : List (Option Bool), (bs.map tb).all flatV = true
  | [] => rfl
  | x :: r => by
    rw [List.map_cons, List.all_cons, flat_tb r]
    cases x <;> rfl
theorem tb_or (x : Option Bool) : tb x = .non ∨ ∃ a, tb x = .bl a := by
  cases x with
  | none => exact .inl rfl
  | some b => exact .inr ⟨b, rfl⟩
theorem tb_true (x : Option Bool) : decide (tb x = .bl true) = decide (x = some true) := by
  rcases x with _ | x
  · simp [tb]
  · cases x <;> simp [tb]
/-- what is no list stays -/
def Tp (H H' : Hp) : Prop := ∀ a o, H a = some o → (∀ ys, o ≠ .lst ys) → H' a = some o
theorem Tp.refl (H : Hp) : Tp H H := fun _ _ h _ => h
theorem Tp.trans {H H1 H2 : Hp} (a : Tp H H1) (b : Tp H1 H2) : Tp H H2 := fun x o h n => b x o (a x o h n) n
theorem Tp.same {H H1 : Hp} (s : Same H H1) : Tp H H1 := fun x o h _ => s x o h
theorem Tp.ex {S : Addr} {H H1 : Hp} {xs : List V} (e : Ex S H H1) (h : H S = some (.lst xs)) : Tp H H1 := fun x o hx n => e x o (fun z => by
  subst z
  rw [h] at hx
  exact n _ (Option.some.inj hx).symm) hx
theorem Tp.lst {H H1 : Hp} {p : Addr} {xs : List V} {o : HO} (e : Tp H H1) (h : H1 p = some (.lst xs)) : Tp H (upd H1 p o) := fun x u hx n => by
  have h2 := e x u hx n
  by_cases z : x = p
  · subst z
    rw [h] at h2
    exact absurd (Option.some.inj h2).symm (n _)
  · rw [upd_ne z]
    exact h2
theorem Tp.new {H H1 : Hp} {p : Addr} {o : HO} (e : Tp H H1) (h : H1 p = none) : Tp H (upd H1 p o) := fun x u hx n => by
  have h2 := e x u hx n
  rw [upd_ne (ne_of_none h2 h)]
  exact h2
theorem Tp.tup {K : PySem.W.Frag} {H H' : Hp} {a : Addr} {xs : List V} (e : Tp H H') (h : SqT K H a xs) : SqT K H' a xs := by
  rcases h with (h | ⟨o, h⟩) | h
  · exact .inl (.inl (e _ _ h (fun _ z => nomatch z)))
  · exact .inl (.inr ⟨o, e _ _ h (fun _ z => nomatch z)⟩)
  · exact .inr h
theorem Ex.free {S : Addr} {H H' : Hp} {q : Addr} (e : Ex S H H') (n : q ≠ S) (h : H' q = none) : H q = none := by
  cases z : H q with
  | none => rfl
  | some o =>
    have := e _ _ n z
    rw [h] at this
    cases this
/-! a test's outcome said by itself -/
def tMid (t : TT) : TT := fun σ H R => ∃ M : Bool → Hp → Prop, t σ H M ∧ ∀ b H', M b H' → R b H'
theorem pt_mid {X : Cx} {e : Expr} {t : TT} (h : PT X e t) : PT X e (tMid t) := ⟨fun pins s σ H Q I ⟨M, hm, k⟩ => thn (h.run pins s σ H M I hm) fun b s' ⟨H', I', q⟩ => ⟨H', I', k b H' q⟩⟩
theorem c_mid {t : TT} {σ : L2.St} {H : Hp} {R : Bool → Hp → Prop} (p : Prop) [Decidable p] (h : t σ H fun b H' => H' = H ∧ b = decide p) (h1 : p → R true H) (h2 : ¬ p → R false H) : tMid t σ H R :=
  ⟨_, h, fun b H' ⟨e1, e2⟩ => by
    subst e1 e2
    by_cases z : p
    · rw [decide_eq_true z]
      exact h1 z
    · rw [decide_eq_false z]
      exact h2 z⟩
theorem cut_to {xs ys : List V} {r : Int} (h : r = (xs.length : Int)) : cutV (xs ++ ys) none (some r) = xs := by
  subst h
  unfold cutV
  rw [HT.sIx_none, HT.sIx_nat, List.length_append, List.drop_zero, Nat.min_eq_left (by omega), Nat.sub_zero, List.take_left']
  rfl
theorem cut_from {xs ys : List V} {r : Int} (h : r = (xs.length : Int)) : cutV (xs ++ ys) (some r) none = ys := by
  subst h
  unfold cutV
  rw [HT.sIx_none, HT.sIx_nat, List.length_append, Nat.min_eq_left (by omega), List.drop_left', List.take_of_length_le (by omega)]
  rfl
theorem new_at {H H' : Hp} {p : Addr} {o : HO} (h : H p = none) (s : Same (upd H p o) H') : H' p = some o := s _ _ upd_same
theorem old_at {H H' : Hp} {p : Addr} {o : HO} (h : H p = some o) (s : Same H H') : H' p = some o := s _ _ h

/-! ### t * k, also by 1 (then t itself) -/
theorem mul_one (l : Addr) (its : Array Value) (n : Nat) (dd : Option Addr) (sl : Array (Option Value)) (u : Tok) :
    Meets (Builtin.«tuple.__mul__» ⟨[.ref l, .int 1 u], []⟩) (fun _ R s => s.heap.get? l = some { cls := .type "tuple", dict := dd, data := .seq its n, slots := sl } ∧ R (.ok (.ret (Value.ref l))) s) :=
  .of_wp fun prog w A R s h => by
    obtain ⟨hp, g, d, tk, os⟩ := s
    obtain ⟨there, h⟩ := h
    have f1 := AutoSeq1.idx_int
    wp_walk using wpAny_loadPart' there
    exact ⟨_, rfl, h⟩
def rRepTA (K : PySem.W.Frag) : R2 := fun x y H Q => ∃ (l : Addr) (k : Int) (xs : List V), x = .ref l ∧ y = .int k ∧ SqT K H l xs ∧ xs ≠ [] ∧ 1 ≤ k ∧ k ≤ 1000 ∧ xs.length ≤ 1000 ∧ (k = 1 → Q (.ref l) H) ∧ (2 ≤ k → ∀ p, H p = none → Q (.ref p) (upd H p (.tup (List.replicate k.toNat xs).flatten)))
theorem op_repTA {X : Cx} : OpR X (binaryOp .Mult) (rRepTA X.K) := by
  intro pins s σ H x y v u Q I rx ry h
  obtain ⟨l, k, xs, rfl, rfl, there, hne, k1, k2, hz, q1, q2⟩ := h
  by_cases one : k = 1
  · subst one
    cases rx
    obtain ⟨tk, rfl⟩ := ry
    obtain ⟨items, vals, ⟨⟨cl, dd, body, slots⟩, got, isT, num, isS⟩, few⟩ := I.tuple there
    dsimp only at isT isS
    subst isT isS
    have tT : s.TypeIs (.ref l) "tuple" := ⟨_, got, rfl⟩
    have tI := typeIs_int s 1 tk
    have left := int_rmul_tuple 1 tk l items.toArray num dd slots
    have right := call_meets (prog := X.prog) (w := X.w) (A := X.A) (E := X.xe) (Q := EP X pins σ Q) PySem.F.slot_tuple_mul tT PySem.F.entry_tuple_mul (PySem.F.args_tuple_mul_2 _ _) (mul_one l items.toArray num dd slots tk) ⟨got, ⟨.ref l, H, I, rfl, q1 rfl⟩⟩
    refine wpAny_binaryOp_repeat_ref (U := "int") (T := "tuple") (by decide) tT (fun z => typeIs_int z 1 tk) noFill_tuple_mul PySem.F.fills_int_mul PySem.F.slot_int_rmul repeat_tuple PySem.F.slot_int_index.lookup ?_
    exact call_meets PySem.F.slot_int_rmul tI PySem.F.entry_int_rmul (PySem.F.args_int_rmul_2 _ _) left ⟨got, rfl, tT, right⟩
  · exact op_repT pins s σ H _ _ v u Q I rx ry ⟨l, k, xs, rfl, rfl, there, hne, by omega, k2, hz, q2 (by omega)⟩

def RowOk (us : List V) : Prop := ∀ v ∈ us, v = .non ∨ ∃ i : Int, v = .int i ∧ -(10 ^ 18) ≤ i ∧ i ≤ 10 ^ 18
/-! ### predicates as trees, and the law's steps that build them -/
def cmpI (s : Str) (i n : Int) : Bool := if s = "<" then decide (i < n) else if s = "<=" then decide (i ≤ n) else if s = "=" then decide (i = n) else if s = "!=" then !decide (i = n) else if s = ">=" then decide (n ≤ i) else decide (n < i)
def cmpO (s : Str) (v : V) (n : Int) : Option Bool := match v with
  | .int i => some (cmpI s i n)
  | _ => none
def signs : List Str := ["<", "<=", "=", "!=", ">=", ">"]
def VNI (v : V) : Prop := v = .non ∨ ∃ i : Int, v = .int i
theorem row_vni {us : List V} (h : RowOk us) {v : V} (hv : v ∈ us) : VNI v := by
  rcases h v hv with e | ⟨i, e, _⟩
  · exact .inl e
  · exact .inr ⟨i, e⟩
theorem sign_in {s : Str} (h : s ∈ signs) : inV (.str s) [.str "<", .str "<=", .str "=", .str "!=", .str ">=", .str ">"] = true := by
  simp only [signs, List.mem_cons, List.not_mem_nil, or_false] at h
  rcases h with rfl | rfl | rfl | rfl | rfl | rfl <;> decide +kernel
theorem sign_ne {s x : Str} (h : s ∈ signs) (hx : x ∉ signs) : s ≠ x := fun e => hx (e ▸ h)
inductive Tr where
  | cmp (s : Str) (c : Nat) (n : Int)
  | mis (c : Nat)
  | neg (t : Tr)
  | unt (t : Tr)
  | jn (e : Bool) (ts : List Tr)
inductive Stp where
  | cmp (s : Str) (c : Nat) (n : Int)
  | mis (c : Nat)
  | neg
  | unt
  | jn (e : Bool) (k : Nat)
def jw (e : Bool) : Str := if e then "either" else "both"
def Stp.vals : Stp → List V
  | .cmp s c n => [.str s, .int (c : Int), .int n]
  | .mis c => [.str "missing", .int (c : Int)]
  | .neg => [.str "negation"]
  | .unt => [.str "untrue"]
  | .jn e k => [.str (jw e), .int (k : Int)]
def Stp.need : Stp → Nat
  | .neg => 1
  | .unt => 1
  | .jn _ k => k
  | _ => 0
def Stp.ok (w : Nat) : Stp → Prop
  | .cmp s c n => s ∈ signs ∧ c < w ∧ -(10 ^ 18) < n ∧ n < 10 ^ 18
  | .mis c => c < w
  | _ => True
def ex1 (ts : List Tr) : Stp → List Tr
  | .cmp s c n => ts ++ [.cmp s c n]
  | .mis c => ts ++ [.mis c]
  | .neg => ts.dropLast ++ [.neg (ts.getLastD (.mis 0))]
  | .unt => ts.dropLast ++ [.unt (ts.getLastD (.mis 0))]
  | .jn e k => ts.take (ts.length - k) ++ [.jn e (ts.drop (ts.length - k))]
def exs (ss : List Stp) : List Tr := ss.foldl ex1 []
theorem exs_snoc (ss : List Stp) (s : Stp) : exs (ss ++ [s]) = ex1 (exs ss) s := by
  unfold exs
  rw [List.foldl_append]
  rfl
theorem exs_take {ss : List Stp} {i : Nat} {s : Stp} (h : ss[i]? = some s) : exs (ss.take (i + 1)) = ex1 (exs (ss.take i)) s := by
  rw [List.take_add_one, h]
  exact exs_snoc _ _
theorem ex1_neg (us : List Tr) (t : Tr) : ex1 (us ++ [t]) .neg = us ++ [.neg t] := by simp [ex1]
theorem ex1_unt (us : List Tr) (t : Tr) : ex1 (us ++ [t]) .unt = us ++ [.unt t] := by simp [ex1]
theorem ex1_jn (us ws : List Tr) (e : Bool) : ex1 (us ++ ws) (.jn e ws.length) = us ++ [.jn e ws] := by simp [ex1]
theorem snocT {ts : List Tr} (h : 1 ≤ ts.length) : ∃ us t, ts = us ++ [t] := by
  rcases List.eq_nil_or_concat ts with e | ⟨r, v, e⟩
  · subst e
    simp at h
  · exact ⟨r, v, by simpa using e⟩
theorem splitT {ts : List Tr} {k : Nat} (h : k ≤ ts.length) : ∃ us ws, ts = us ++ ws ∧ ws.length = k :=
  ⟨ts.take (ts.length - k), ts.drop (ts.length - k), (List.take_append_drop _ _).symm, by rw [List.length_drop]; omega⟩
/-- every step finds enough on the stack -/
def Valid (ss : List Stp) : Prop := ∀ (i : Nat) (s : Stp), ss[i]? = some s → s.need ≤ (exs (ss.take i)).length
theorem Valid.nil : Valid [] := fun i s h => by simp at h
theorem Valid.snoc {ss : List Stp} {s : Stp} (v : Valid ss) (h : s.need ≤ (exs ss).length) : Valid (ss ++ [s]) := fun i x hx => by
  by_cases hi : i < ss.length
  · rw [List.getElem?_append_left hi] at hx
    rw [List.take_append_of_le_length (Nat.le_of_lt hi)]
    exact v i x hx
  · have hi2 : i = ss.length := by
      have := (List.getElem?_eq_some_iff.mp hx).1
      simp at this
      omega
    subst hi2
    rw [List.getElem?_append_right (Nat.le_refl _), Nat.sub_self] at hx
    simp at hx
    subst hx
    rw [List.take_append_of_le_length (Nat.le_refl _), List.take_length]
    exact h
structure Stps (w : Nat) (H : Hp) (xs : List V) (ss : List Stp) : Prop where
  len : xs.length = ss.length
  at_ : ∀ (i : Nat) (s : Stp), ss[i]? = some s → ∃ a : Addr, xs[i]? = some (V.ref a) ∧ H a = some (.tup (Stp.vals s))
  ok : ∀ s ∈ ss, s.ok w
theorem Stps.keep {w : Nat} {H H' : Hp} {xs : List V} {ss : List Stp} (h : Stps w H xs ss) (e : Tp H H') : Stps w H' xs ss :=
  ⟨h.len, fun i s hi => let ⟨a, x, y⟩ := h.at_ i s hi; ⟨a, x, e _ _ y (fun _ z => nomatch z)⟩, h.ok⟩
theorem Stps.nil {w : Nat} {H : Hp} : Stps w H [] [] := ⟨rfl, fun i s h => by simp at h, fun s h => nomatch h⟩
theorem Stps.snoc {w : Nat} {H : Hp} {xs : List V} {ss : List Stp} {a : Addr} {s : Stp} (h : Stps w H xs ss) (ha : H a = some (.tup s.vals)) (hs : s.ok w) : Stps w H (xs ++ [.ref a]) (ss ++ [s]) :=
  ⟨by simp [h.len], fun i x hx => by
    by_cases hi : i < ss.length
    · rw [List.getElem?_append_left hi] at hx
      rw [List.getElem?_append_left (by rw [h.len]; exact hi)]
      exact h.at_ i x hx
    · have hi2 : i = ss.length := by
        have := (List.getElem?_eq_some_iff.mp hx).1
        simp at this
        omega
      subst hi2
      rw [List.getElem?_append_right (Nat.le_refl _), Nat.sub_self] at hx
      rw [List.getElem?_append_right (by rw [h.len]; exact Nat.le_refl _), h.len, Nat.sub_self]
      simp at hx
      subst hx
      exact ⟨a, rfl, ha⟩, fun x hx => by
    rcases List.mem_append.mp hx with hx | hx
    · exact h.ok x hx
    · rw [List.mem_singleton] at hx
      subst hx
      exact hs⟩
theorem Stps.get {w : Nat} {H : Hp} {xs : List V} {ss : List Stp} (h : Stps w H xs ss) {i : Nat} {x : V} (hx : xs[i]? = some x) : ∃ s a, ss[i]? = some s ∧ x = V.ref a ∧ H a = some (.tup s.vals) ∧ s.ok w := by
  have hi : i < ss.length := by
    have := (List.getElem?_eq_some_iff.mp hx).1
    rw [h.len] at this
    exact this
  obtain ⟨a, h1, h2⟩ := h.at_ i _ (List.getElem?_eq_getElem hi)
  rw [hx] at h1
  exact ⟨ss[i], a, List.getElem?_eq_getElem hi, Option.some.inj h1, h2, h.ok _ (List.getElem_mem hi)⟩
mutual
/-- in H the value is the tree; it has at most so many nodes -/
inductive PTr (K : PySem.W.Frag) (w : Nat) (H : Hp) : V → Tr → Nat → Prop where
  | cmp {a : Addr} {s : Str} {c : Nat} {n : Int} (hs : s ∈ signs) (hc : c < w) (h0 : -(10 ^ 18) < n) (h1 : n < 10 ^ 18) (h : SqT K H a [.str s, .int (c : Int), .int n]) : PTr K w H (.ref a) (.cmp s c n) 1
  | mis {a : Addr} {c : Nat} (hc : c < w) (h : SqT K H a [.str "missing", .int (c : Int)]) : PTr K w H (.ref a) (.mis c) 1
  | neg {a : Addr} {v : V} {t : Tr} {m : Nat} (h : SqT K H a [.str "negation", v]) (p : PTr K w H v t m) : PTr K w H (.ref a) (.neg t) (m + 1)
  | unt {a : Addr} {v : V} {t : Tr} {m : Nat} (h : SqT K H a [.str "untrue", v]) (p : PTr K w H v t m) : PTr K w H (.ref a) (.unt t) (m + 1)
  | jn {a : Addr} {e : Bool} {vs : List V} {ts : List Tr} {m : Nat} (h : SqT K H a (.str (jw e) :: vs)) (p : PTrs K w H vs ts m) : PTr K w H (.ref a) (.jn e ts) (m + 1)
inductive PTrs (K : PySem.W.Frag) (w : Nat) (H : Hp) : List V → List Tr → Nat → Prop where
  | nil : PTrs K w H [] [] 0
  | cons {v : V} {t : Tr} {vs : List V} {ts : List Tr} {m k : Nat} (p : PTr K w H v t m) (r : PTrs K w H vs ts k) : PTrs K w H (v :: vs) (t :: ts) (m + k)
end
section
variable {K : PySem.W.Frag} {w : Nat} {H H' : Hp}
theorem PTr.keep {v : V} {t : Tr} {m : Nat} (h : PTr K w H v t m) (e : Tp H H') : PTr K w H' v t m :=
  h.rec (motive_1 := fun v t m _ => PTr K w H' v t m) (motive_2 := fun vs ts m _ => PTrs K w H' vs ts m) (fun a b c d h => .cmp a b c d (e.tup h)) (fun a h => .mis a (e.tup h)) (fun h _ i => .neg (e.tup h) i) (fun h _ i => .unt (e.tup h) i) (fun h _ i => .jn (e.tup h) i) .nil (fun _ _ a b => .cons a b)
theorem PTrs.keep {vs : List V} {ts : List Tr} {m : Nat} (h : PTrs K w H vs ts m) (e : Tp H H') : PTrs K w H' vs ts m :=
  h.rec (motive_1 := fun v t m _ => PTr K w H' v t m) (motive_2 := fun vs ts m _ => PTrs K w H' vs ts m) (fun a b c d h => .cmp a b c d (e.tup h)) (fun a h => .mis a (e.tup h)) (fun h _ i => .neg (e.tup h) i) (fun h _ i => .unt (e.tup h) i) (fun h _ i => .jn (e.tup h) i) .nil (fun _ _ a b => .cons a b)
theorem PTr.pos {v : V} {t : Tr} {m : Nat} (h : PTr K w H v t m) : 0 < m := by
  cases h <;> omega
theorem PTrs.len {vs : List V} {ts : List Tr} {m : Nat} (h : PTrs K w H vs ts m) : vs.length = ts.length := by
  induction ts generalizing vs m with
  | nil => cases h; rfl
  | cons t ts ih =>
    cases h with
    | cons p r => simp [ih r]
theorem PTrs.le {vs : List V} {ts : List Tr} {m : Nat} (h : PTrs K w H vs ts m) : ts.length ≤ m := by
  induction ts generalizing vs m with
  | nil => exact Nat.zero_le _
  | cons t ts ih =>
    cases h with
    | cons p r =>
      have := ih r
      have := p.pos
      simp
      omega
theorem PTrs.app {vs us : List V} {ts ws : List Tr} {m n : Nat} (h : PTrs K w H vs ts m) (g : PTrs K w H us ws n) : PTrs K w H (vs ++ us) (ts ++ ws) (m + n) := by
  induction ts generalizing vs m with
  | nil =>
    cases h
    simpa using g
  | cons t ts ih =>
    cases h with
    | cons p r =>
      rw [Nat.add_assoc]
      exact .cons p (ih r)
theorem PTrs.one {v : V} {t : Tr} {m : Nat} (h : PTr K w H v t m) : PTrs K w H [v] [t] m := .cons h .nil
theorem PTrs.split {ts ws : List Tr} : ∀ {vs : List V} {m : Nat}, PTrs K w H vs (ts ++ ws) m → ∃ xs ys i j, vs = xs ++ ys ∧ m = i + j ∧ PTrs K w H xs ts i ∧ PTrs K w H ys ws j := by
  induction ts with
  | nil => exact fun {vs m} h => ⟨[], vs, 0, m, rfl, (Nat.zero_add _).symm, .nil, h⟩
  | cons t ts ih =>
    intro vs m h
    cases h with
    | cons p r =>
      obtain ⟨xs, ys, i, j, e1, e2, h1, h2⟩ := ih r
      exact ⟨_ :: xs, ys, _ + i, j, by rw [e1]; rfl, by rw [e2, Nat.add_assoc], .cons p h1, h2⟩
theorem PTrs.sing {vs : List V} {t : Tr} {m : Nat} (h : PTrs K w H vs [t] m) : ∃ v, vs = [v] ∧ PTr K w H v t m := by
  cases h with
  | cons p r =>
    cases r
    exact ⟨_, rfl, p⟩
theorem PTrs.get {ts : List Tr} : ∀ {vs : List V} {m i : Nat} {v : V}, PTrs K w H vs ts m → vs[i]? = some v → ∃ t k, ts[i]? = some t ∧ PTr K w H v t k ∧ k ≤ m := by
  induction ts with
  | nil =>
    intro vs m i v h hi
    cases h
    simp at hi
  | cons t ts ih =>
    intro vs m i v h hi
    cases h with
    | cons p r =>
      cases i with
      | zero =>
        simp at hi
        subst hi
        exact ⟨t, _, rfl, p, by omega⟩
      | succ i =>
        simp at hi
        obtain ⟨t', k, h1, h2, h3⟩ := ih r hi
        exact ⟨t', k, by simpa using h1, h2, by omega⟩
end
/-! what a predicate says of a row -/
def jnv (e : Bool) (bs : List (Option Bool)) : Option Bool := if bs.contains (some e) = true then some e else if bs.contains none = true then none else some (!e)
mutual
def ev (us : List V) : Tr → Option Bool
  | .cmp s c n => cmpO s (us.getD c .non) n
  | .mis c => some (decide (us.getD c .non = .non))
  | .neg t => (ev us t).map not
  | .unt t => some (!decide (ev us t = some true))
  | .jn e ts => jnv e (evs us ts)
def evs (us : List V) : List Tr → List (Option Bool)
  | [] => []
  | t :: ts => ev us t :: evs us ts
end
theorem evs_map (us : List V) : ∀ ts, evs us ts = ts.map (ev us)
  | [] => rfl
  | t :: ts => by
    rw [evs, evs_map us ts]
    rfl
theorem ev_jn (us : List V) (e : Bool) (ts : List Tr) : ev us (.jn e ts) = jnv e (ts.map (ev us)) := by
  rw [ev, evs_map]
def kids : Tr → List Tr
  | .neg t => [t]
  | .unt t => [t]
  | .jn _ ts => ts
  | _ => []
theorem jw_ne {x : Str} {e : Bool} (h : jw false ≠ x ∧ jw true ≠ x) : jw e ≠ x := by
  cases e
  · exact h.1
  · exact h.2
theorem jw_nin {e : Bool} : inV (.str (jw e)) [.str "<", .str "<=", .str "=", .str "!=", .str ">=", .str ">"] = false := by
  cases e <;> decide +kernel
theorem PTr.word {K : PySem.W.Frag} {w : Nat} {H : Hp} {v : V} {t : Tr} {m : Nat} (h : PTr K w H v t m) :
    (∃ a s c n, v = .ref a ∧ t = .cmp s c n ∧ s ∈ signs ∧ c < w ∧ -(10 ^ 18) < n ∧ n < 10 ^ 18 ∧ SqT K H a [.str s, .int (c : Int), .int n]) ∨ (∃ a c, v = .ref a ∧ t = .mis c ∧ c < w ∧ SqT K H a [.str "missing", .int (c : Int)]) ∨
    ∃ a x vs, v = .ref a ∧ SqT K H a (.str x :: vs) ∧ inV (.str x) [.str "<", .str "<=", .str "=", .str "!=", .str ">=", .str ">"] = false ∧ x ≠ "missing" ∧ ((x = "negation" ∧ ∃ t', t = .neg t') ∨ (x = "untrue" ∧ ∃ t', t = .unt t') ∨ ∃ e ts, x = jw e ∧ t = .jn e ts) := by
  cases h with
  | cmp hs hc h0 h1 h => exact .inl ⟨_, _, _, _, rfl, rfl, hs, hc, h0, h1, h⟩
  | mis hc h => exact .inr (.inl ⟨_, _, rfl, rfl, hc, h⟩)
  | neg h p => exact .inr (.inr ⟨_, _, _, rfl, h, by decide +kernel, by decide +kernel, .inl ⟨rfl, _, rfl⟩⟩)
  | unt h p => exact .inr (.inr ⟨_, _, _, rfl, h, by decide +kernel, by decide +kernel, .inr (.inl ⟨rfl, _, rfl⟩)⟩)
  | jn h p => exact .inr (.inr ⟨_, _, _, rfl, h, jw_nin, jw_ne (by decide +kernel), .inr (.inr ⟨_, _, rfl, rfl⟩)⟩)

/-! ### set(xs) of a list of ints -/
section
variable {P : Program} {w : World} {A : Around} {E : Value → Shared → Prop} {s : Shared}
abbrev emptySet (w : World) : Obj := { cls := .type "set", dict := none, data := .set #[] 0 (.fresh 0 0 (!w.params.followText "set-order")) }
theorem vals_at {zs : List Int} {items : Array Value} (h : IntsAre items.toList zs) (i : Nat) (v : Value) (e : items[i]? = some v) : ∃ k t, zs[i]? = some k ∧ v = .int k t := by
  have hl := IntsAre.length h
  rw [Array.length_toList] at hl
  have hi : i < zs.length := by
    have q := (Array.getElem?_eq_some_iff.mp e).1
    omega
  obtain ⟨t, z⟩ := PyProof.Rows.IntsAre.int_at h i v (by rw [Array.getElem?_toList]; exact e)
  refine ⟨zs[i], t, List.getElem?_eq_getElem hi, z.trans ?_⟩
  rw [List.getD_eq_getElem?_getD, List.getElem?_eq_getElem hi]
  rfl
/-- what the update leaves -/
def Made (w : World) (s : Shared) (zs : List Int) (r : Value) (s2 : Shared) : Prop := r = .none ∧ ∃ (h2 : Heap) (tk c : Nat), s2 = { s with heap := h2, toks := tk } ∧ SetR w h2 s.heap.objs.size (fun j => decide (j ∈ zs)) c ∧ c ≤ zs.length ∧ ∀ b o, s.heap.get? b = some o → h2.get? b = some o
theorem init_from {l : Addr} {items : Array Value} (zs : List Int) (calm : A.handled = none) (there : s.heap.IsList l items) (its : IntsAre items.toList zs) (room : zs.length + 1 < scanBound) :
    codeAny (model P w) A (.call (.builtin "set.__init__") ⟨[.ref s.heap.objs.size, .ref l], []⟩) (wants (Made w s zs) E) { s with heap := s.heap.push (emptySet w) } := by
  have same : items.size = zs.length := by
    have q := IntsAre.length its
    rwa [Array.length_toList] at q
  have hS : (s.heap.push (emptySet w)).get? s.heap.objs.size = some (emptySet w) := Heap.get?_push_size _ rfl
  have hT : Shared.TypeIs { s with heap := s.heap.push (emptySet w) } (.ref s.heap.objs.size) "set" := ⟨_, hS, rfl⟩
  refine codeAny_call_builtin F.called_set.init.plain F.entry_set_init (check_set_init_1 hT ?_)
  obtain ⟨⟨c0, d0, b0, s0⟩, got, isL, num, isS⟩ := there
  dsimp only at isL isS
  subst isL isS
  have lt : l < s.heap.objs.size := Heap.lt_size got
  have got' : (s.heap.push (emptySet w)).get? l = some { cls := .type "list", dict := d0, data := .seq items num, slots := s0 } := Heap.get?_push_of_some _ got
  have notS := F.sub_list_set
  have notF := F.sub_list_frozenset
  have notD : (Value.type "list" == Value.type "dict") = false := by decide
  have there' : (s.heap.push (emptySet w)).IsList l items := ⟨_, got', rfl, num, rfl⟩
  unfold Builtin.«set.__init__» noKeywords Builtin.Frozenset.updateFrom
  generalize hit : pyIter = PIt
  wp_walk
  subst hit
  refine wpAny_pyIter_list there' ?_
  refine wpAny_bind (wpAny_runValue ?_)
  have grown : (s.heap.push (emptySet w)).objs.size = s.heap.objs.size + 1 := Heap.size_push ..
  have apart : l ≠ (s.heap.push (emptySet w)).objs.size := by
    rw [grown]
    exact Nat.ne_of_lt (Nat.lt_succ_of_lt lt)
  have calm3 : A.in1.in1.handled = none := by simp [calm]
  refine set_update_ints ((Walks.list calm3 _ l apart items).toS) s.heap.objs.size ?out zs same room (fun i v e => vals_at its i v e) items.size 0 _ (Nat.sub_zero _) (Nat.zero_le _) ?stands ?start ?rest
  case stands => exact ⟨⟨_, Heap.get?_push_size _ rfl, rfl, rfl⟩, there'.push _⟩
  case start =>
    refine ⟨0, Nat.le_refl 0, setR_new_at ?_⟩
    exact Heap.get?_push_of_some _ hS
  case out =>
    rw [grown]
    simp only [List.mem_cons, List.not_mem_nil, or_false, not_or]
    exact ⟨Nat.ne_of_lt (Nat.lt_succ_self _), (Nat.ne_of_lt lt).symm⟩
  case rest =>
    rintro ⟨h2, g2, d2, t2, o2⟩ c moved few made
    have eg : g2 = s.gens := moved.gens
    have ed : d2 = s.drawn := moved.drawn
    have eo : o2 = s.os := moved.os
    subst eg ed eo
    refine wpAny_pure (wpAny_pure ⟨rfl, h2, t2, c, rfl, made, by omega, fun b o e => ?_⟩)
    have lb := Heap.lt_size e
    refine moved.heap b o ?_ (Heap.get?_push_of_some _ (Heap.get?_push_of_some _ e))
    rw [grown]
    simp only [List.mem_cons, List.not_mem_nil, or_false, not_or]
    exact ⟨Nat.ne_of_lt lb, Nat.ne_of_lt (Nat.lt_succ_of_lt lb)⟩
theorem set_from_list {l : Addr} {items : Array Value} (zs : List Int) {Q : Value → Shared → Prop} (calm : A.handled = none) (there : s.heap.IsList l items) (its : IntsAre items.toList zs) (room : zs.length + 1 < scanBound)
    (k : ∀ (h2 : Heap) (tk c : Nat), SetR w h2 s.heap.objs.size (fun j => decide (j ∈ zs)) c → c ≤ zs.length → (∀ b o, s.heap.get? b = some o → h2.get? b = some o) → Q (.ref s.heap.objs.size) { s with heap := h2, toks := tk }) :
    wpAny (model P w) A (call (.type "set") [.ref l]) Q E s := by
  have f1 := F.called_set.notType
  have f2 := F.called_set.canCreate
  have f3 := F.typeCall_set_1 (.ref l)
  have f4 := F.called_set.made
  have f5 := F.called_set.sub
  have f6 := F.called_set.init.lookup
  have f7 := F.called_set.init.bind (.ref s.heap.objs.size)
  obtain ⟨c0, tl, f8⟩ := F.called_set.mro
  have quiet : (Code.builtin "type.__call__" ⟨[.type "set", .ref l], []⟩).quiet = true := Code.quiet_builtin _ (by decide +kernel)
  refine wpAny_call (codeAny_of_tree (wpAny_pure ⟨quiet, codeAny_builtin PySem.F.entry_type_call ?_⟩))
  rw [Around.under_plain (weight_type_call_type "set" [.ref l] []) rfl]
  repeat (any_goals (first | assumption | wp_step))
  have fresh := code_set_led1 (P := P) (w := w) (A := A.in1) (s := s) (.ref l) (E := E) (Q₁ := fun x z => x = .ref s.heap.objs.size ∧ z = { s with heap := s.heap.push (emptySet w) }) ⟨rfl, rfl⟩
  refine codeAny_mono fresh ?_
  rintro (e | f) z hz
  · exact hz
  cases f with
  | ret x =>
    obtain ⟨rfl, rfl⟩ := hz
    have isSet : Shared.TypeIs { s with heap := s.heap.push (emptySet w) } (.ref s.heap.objs.size) "set" := ⟨_, Heap.get?_push_size _ rfl, rfl⟩
    repeat (any_goals (first | assumption | wp_step))
    refine codeAny_mono (init_from (E := E) zs (by simpa using calm) there its room) ?_
    rintro (e | f) z hz
    · exact hz
    cases f with
    | ret x =>
      obtain ⟨rfl, h2, tk, c, rfl, made, few, kept⟩ := hz
      repeat (any_goals (first | assumption | wp_step))
      exact k _ _ _ made few kept
    | _ => exact hz.elim
  | _ => exact hz.elim
end
section
variable {X : Cx}
/-- set(xs), xs a list of ints -/
def rSetOfI (K : PySem.W.Frag) (w : World) : List V → Hp → VK → Prop := fun vs H Q => ∃ (l : Addr) (zs : List Int), vs = [.ref l] ∧ SqL K H l (zs.map V.int) ∧ zs.length ≤ 1000 ∧ ∀ p c, H p = none → c ≤ zs.length → Q (.ref p) (upd H p (SetO w p (fun j => decide (j ∈ zs)) c))
theorem cr_setOfI (hc : X.calm = true) : CallR X (.type "set") (rSetOfI X.K X.w) := by
  intro pins s σ H vs us Q I r h
  obtain ⟨l, zs, rfl, there, few, q⟩ := h
  rw [Vals.ref1 r]
  obtain ⟨items, rv, pl, hz⟩ := I.list there
  refine set_from_list zs (I.ok.hd hc) pl.isList (by simpa using intsAre_of rv) (by unfold scanBound; omega) fun h2 tk c made fw kept => ?_
  exact ⟨.ref _, _, I.laid (a := s.heap.objs.size) (t' := tk) kept (Nat.le_refl _) (setO_new made), rfl, q _ c (I.hok.fresh (Nat.le_refl _)) fw⟩
end

/-! ### {e for x in xs if ..}, e an int -/
section
variable {X : Cx}
def tScI (w : World) (wi : TI) (g : TG) (tt : TT) (te : TE) (vs : List Nat) : TE := fun σ H Q => wi σ H fun J H1 => ∀ D, H1 D = none → ∃ W : Nat → Nat → Hp → Prop, (∃ m, W 0 m (upd H1 D (SetO w D (fun _ => false) 0))) ∧ ∀ i m G, W i m G →
  (J.stop i G ∧ Q (.ref D) G) ∨ (J.go i G ∧ ∃ Nx : Hp → Prop, (∀ G', Nx G' → ∃ m', m' < m ∧ W (i + 1) m' G') ∧ ∀ x G', J.yld i G x G' → g x (wipe σ vs) G' fun σ2 H2 => wipe σ2 vs = wipe σ vs ∧ tt σ2 H2 fun b H3 =>
    if b = true then te σ2 H3 fun y H4 => ∃ (k : Int) (S : Int → Bool) (n : Nat), y = .int k ∧ H4 D = some (SetO w D S n) ∧ n + 1 < scanBound ∧ Nx (upd H4 D (SetO w D (fun j => S j || decide (j = k)) (if S k = true then n else n + 1))) else Nx H3)
theorem addI {pins : List (Addr × Obj)} {σ : L2.St} {H : Hp} {s : Shared} {E : Value → Shared → Prop} {D : Addr} {S : Int → Bool} {n : Nat} {k : Int} {t : Tok} {Q : Value → Shared → Prop} (I : Inv X pins σ H s) (hD : H D = some (SetO X.w D S n)) (few : n + 1 < scanBound)
    (h : ∀ s', Inv X pins σ (upd H D (SetO X.w D (fun j => S j || decide (j = k)) (if S k = true then n else n + 1))) s' → Q .none s') : wpAny (model X.prog X.w) X.A (call (.builtin "set.add") [.ref D, .int k t]) Q E s :=
  setR_add (setO_get I hD) few fun h' sb new => by
    obtain ⟨u, hu⟩ : ∃ u, h'.get? D = some u := let ⟨o, _, _, _, ho, _⟩ := new; ⟨o, ho⟩
    exact h _ (I.write (e := D) (t' := s.toks + 1) (by rw [hD]; trivial) (.inl rfl) (fun b o hb ho => (sb.2 b hb).trans ho) ⟨u, hu⟩ (setO_new new))
open PpSet in
theorem pe_scI {elt tg iter : Expr} {ifs : List Expr} {scope : Scope} {own : List (PySem.Str × Nat)} {pos : Pos} {wi : TI} {g : TG} {tt : TT} {te : TE} (hc : X.calm = true) (hN : X.N.Nodup) (hi : PI X tg iter wi) (ok : BlkOk X.N X.env.scope scope own)
    (hg : ∀ s H C cl fp, PG (X.blk s H scope (compEnvC scope cl C X.env) fp) tg g)
    (ht : ∀ s H C cl fp, PTs (X.blk s H scope (compEnvC scope cl C X.env) fp) ifs tt)
    (he : ∀ s H C cl fp, PE (X.blk s H scope (compEnvC scope cl C X.env) fp) elt te)
    (hs : ∀ x, foldedSetIterable iter X.env x = pure x := by intro _; rfl) :
    PE X (.SetComp elt [⟨tg, iter, ifs, 0⟩] scope pos) (tScI X.w wi g tt te (own.map (·.2))) := ⟨fun pins s σ H Q I h => by
  rw [eval_SetComp]
  have closed : ∀ y ∈ scope.names, y.2 = .free → ∃ c, X.env.cells.lookup y.1 = some c := fun y hy e => (ok.free y hy e).elim (fun k => I.ok.has _ (.inl k)) (fun k => I.ok.has _ (.inr k))
  refine wpAny_comprehension_free (use := none) rfl hs (closure_ok closed) ok.kind (fun y hy e => by rw [ok.uniq y hy, e]) (thn (hi.run pins s σ H _ I h) fun _ _ a => thn a fun _ s2 b => ?_)
  obtain ⟨it, fp, tn, J, H2, rfl, I2, T, at2, fre2, q⟩ := b
  refine newSet_ok (newEnv_comp ?_)
  -- the set, laid at the end of the heap
  obtain ⟨D, hD⟩ : ∃ D, D = s2.heap.objs.size := ⟨_, rfl⟩
  obtain ⟨s3, hs3⟩ : ∃ s3 : Shared, s3 = { s2 with heap := s2.heap.push (emptySet X.w) } := ⟨_, rfl⟩
  have eh : s3.heap = s2.heap.push (emptySet X.w) := by rw [hs3]
  have nD : H2 D = none := I2.hok.fresh (Nat.le_of_eq hD.symm)
  have I3 : Inv X pins σ (upd H2 D (SetO X.w D (fun _ => false) 0)) s3 := by
    rw [hs3]
    exact I2.laid (t' := s2.toks) (fun b o e => Heap.get?_push_of_some _ e) (Nat.le_of_eq hD.symm) (by rw [hD]; exact setO_new (setR_new_at (ns := []) (Heap.get?_push_size _ rfl)))
  obtain ⟨W, ⟨m0, w0⟩, turn⟩ := q D nD
  have low : ∀ b ∈ fp, b < s2.heap.objs.size := fun b hb => let ⟨_, e, _⟩ := T.obj _ _ at2 b hb; Heap.lt_size e
  have fre3 : ∀ b ∈ fp, FpOk X pins (upd H2 D (SetO X.w D (fun _ => false) 0)) b ∧ b < s3.heap.objs.size := fun b hb =>
    ⟨⟨(upd_ne (by rw [hD]; exact Nat.ne_of_lt (low b hb))).trans (fre2 b hb).1, (fre2 b hb).2⟩, by rw [eh, Heap.size_push]; exact Nat.lt_succ_of_lt (low b hb)⟩
  have at3 : tn 0 s3.heap := T.keep _ _ _ at2 fun b _ o e => by rw [eh]; exact Heap.get?_push_of_some _ e
  obtain ⟨G, hG⟩ : ∃ G, G = upd H2 D (SetO X.w D (fun _ => false) 0) := ⟨_, rfl⟩
  rw [← hG] at I3 w0 fre3
  have I4 := block_start I3 ok hN fre3
  have free3 : ∀ b ∈ fp, G b = none := fun b hb => (fre3 b hb).1.1
  obtain ⟨ce, hce⟩ : ∃ ce, ce = compEnvC scope (cellsFrom (s3.heap.objs.size + 1) scope.names (cloFrom X.env.cells scope.names [])) s3.heap.objs.size X.env := ⟨_, rfl⟩
  have pg := hg s3 G s3.heap.objs.size (cellsFrom (s3.heap.objs.size + 1) scope.names (cloFrom X.env.cells scope.names [])) fp
  have pt := ht s3 G s3.heap.objs.size (cellsFrom (s3.heap.objs.size + 1) scope.names (cloFrom X.env.cells scope.names [])) fp
  have pe := he s3 G s3.heap.objs.size (cellsFrom (s3.heap.objs.size + 1) scope.names (cloFrom X.env.cells scope.names [])) fp
  rw [← hce] at I4 pg pt pe
  have eL : ce.locals = s3.heap.objs.size := by rw [hce]; rfl
  obtain ⟨s4, hs4⟩ : ∃ s4 : Shared, s4 = { s3 with heap := pushCells (s3.heap.push { cls := .type "dict", data := .dict #[] }) scope.names } := ⟨_, rfl⟩
  rw [← hs4] at I4
  have at4 : tn 0 s4.heap := T.keep _ _ _ at3 fun b _ o e => by rw [hs4]; exact pushCells_keeps _ _ _ _ (Heap.get?_push_of_some _ e)
  have fpB : ∀ {σ' : L2.St} {H' : Hp} {s' : Shared}, Inv (X.blk s3 G scope ce fp) [] σ' H' s' → (∀ b ∈ fp, H' b = none) → ∀ b ∈ fp, FpOk (X.blk s3 G scope ce fp) [] H' b := fun I' n b hb =>
    ⟨n b hb, (I'.ok.exf b hb).1, I'.ok.exfs b hb, .inl hb, fun x c e => (I'.ok.exf b hb).2 x c e, fun p hp => absurd (show p ∈ ([] : List (Addr × Obj)) ++ [] from hp) (by simp)⟩
  have loop : codeAny (model X.prog X.w) X.A (.compLoop (.SetComp elt [⟨tg, iter, ifs, 0⟩] scope pos) 0 (.ref it) (.ref D) ce) (compPost (model X.prog X.w) X.A X.xe none (fun u s' => EP X pins σ Q u s') (.ref D) s3.heap.objs.size) s4 := by
    refine compLoopS_any (fun n s' => ∃ i H', Inv (X.blk s3 G scope ce fp) [] (wipe σ (own.map (·.2))) H' s' ∧ tn i s'.heap ∧ (∀ b ∈ fp, H' b = none) ∧ W i n H') (fun n s5 hh => ?_) m0 ⟨0, G, I4, at4, free3, w0⟩
    obtain ⟨i, H5, I5, at5, free5, w5⟩ := hh
    rcases turn i n H5 w5 with ⟨stop, qq⟩ | ⟨go, Nx, hNx, step⟩
    · refine thnF (T.done (X.blk s3 G scope ce fp) rfl rfl rfl hc i [] s5 _ H5 (fun _ _ => False) I5 (fpB I5 free5) at5 stop) fun r s6 hr => ?_
      obtain ⟨rfl, I6⟩ := hr
      have I7 : Inv X pins σ H5 s6 := I3.call' (ch := fp) I6.os I6.base I6.hok I6.bare fun b hb => let z := (fre3 b hb).1.2; ⟨z.2.2.1, z.1, z.2.2.2.1, z.2.2.2.2⟩
      have nC : H5 s3.heap.objs.size = none := eL ▸ (show H5 ce.locals = none from I6.free)
      obtain ⟨m, hn, _⟩ := I6.loc
      have hn' : s6.heap.Ns s3.heap.objs.size m := eL ▸ (show s6.heap.Ns ce.locals m from hn)
      refine ⟨m, hn', fun h'' sb => ?_⟩
      obtain ⟨f0, f1, _, f3, f4, f5⟩ := I3.fpOk (Nat.le_refl _) nC
      exact ⟨.ref D, H5, I7.turned (t' := s6.toks) (fun b o hb e => (sb.2 b hb).trans e) f0 f1 f3 f4 f5, rfl, qq⟩
    · refine thnF (T.item (X.blk s3 G scope ce fp) rfl rfl rfl hc i [] s5 _ H5 (fun _ _ => False) I5 (fpB I5 free5) at5 go) fun r s6 hr => ?_
      obtain ⟨u, rfl, h6⟩ := hr
      refine thnF h6 fun _ s7 h7 => ?_
      obtain ⟨x, H7, I7, r7, y7, at7, free7⟩ := h7
      refine thnF (pg.run _ s7 _ H7 x u _ (I7.pinned (fpB I7 free7) (T.obj _ _ at7)) r7 (step x H7 y7)) fun _ s8 h8 => ?_
      obtain ⟨σ8, H8, I8, hw8, q8⟩ := h8
      refine thnF (pt.run _ s8 σ8 H8 _ I8 q8) fun b s9 h9 => ?_
      obtain ⟨H9, I9, q9⟩ := h9
      have next : ∀ {s' : Shared} {H' : Hp}, Inv (X.blk s3 G scope ce fp) ([] ++ pinsAt fp s7.heap) σ8 H' s' → Nx H' → ∃ m, m < n ∧ ∃ i H', Inv (X.blk s3 G scope ce fp) [] (wipe σ (own.map (·.2))) H' s' ∧ tn i s'.heap ∧ (∀ b ∈ fp, H' b = none) ∧ W i m H' := fun {s' H'} I' nx => by
        obtain ⟨m', lt, w'⟩ := hNx H' nx
        have still : ∀ b ∈ fp, ∀ o, s7.heap.get? b = some o → s'.heap.get? b = some o ∧ H' b = none := fun b hb o e => let z := I'.pin (b, o) (List.mem_append_right _ (List.mem_append_right _ (mem_pinsAt hb e))); ⟨z.1, z.2.1⟩
        exact ⟨m', lt, i + 1, H', (I'.unpinned (pins := [])).weak (by rw [← hw8, wipe_length]) (fun j v e => (wipe_some (hw8 ▸ e)).1), T.keep _ _ _ at7 fun b hb o e => (still b hb o e).1, fun b hb => let ⟨o, e, _⟩ := T.obj _ _ at7 b hb; (still b hb o e).2, w'⟩
      cases b with
      | false =>
        rw [if_neg Bool.false_ne_true] at q9
        exact next I9 q9
      | true =>
        rw [if_pos rfl] at q9
        refine thnF (pe.run _ s9 σ8 H9 _ I9 q9) fun z s10 h10 => ?_
        obtain ⟨yv, H10, I10, r10, k, S0, n0, rfl, hD10, few, nx⟩ := h10
        obtain ⟨tk, rfl⟩ := r10
        exact addI (X := X.blk s3 G scope ce fp) I10 hD10 few fun s11 I11 => next I11 nx
  subst hs4 hce hs3 hD
  exact codeAny_compStart_set loop (T.self X.A 0 _ _ _ at4 loop)⟩
end
/-! ### the inner walk of a comprehension's second for -/
section
variable {X : Cx} {s : Shared} {H : Hp} {scope : Scope} {e : Env} {fp : List Addr} {tg l : Expr} {tl : TE}
theorem pi_listB (h : PE (X.blk s H scope e fp) l tl) : PI (X.blk s H scope e fp) tg l (iList X.K tl) := pi_list h
theorem pi_tupB (h : PE (X.blk s H scope e fp) l tl) : PI (X.blk s H scope e fp) tg l (iTup X.K tl) := pi_tup h
end
section
variable {X : Cx} {s : Shared} {H : Hp} {scope : Scope} {e : Env} {fp : List Addr}
theorem ix_tupB : IxR (X.blk s H scope e fp) (rIxT X.K) := ix_tup
theorem ix_listB : IxR (X.blk s H scope e fp) (rIxL X.K) := ix_list
end

/-! ### the stand-ins of ascending numbers -/
theorem free' {H H' : Hp} {p : Addr} (h : H' p = none) (s : Same H H') : H p = none := s.free h
def Asc (ms : List Int) : Prop := ms.Pairwise (· < ·)
theorem asc_ext : ∀ {xs ys : List Int}, Asc xs → Asc ys → (∀ z, z ∈ xs ↔ z ∈ ys) → xs = ys
  | [], [], _, _, _ => rfl
  | [], y :: ys, _, _, h => absurd ((h y).mpr List.mem_cons_self) (by simp)
  | x :: xs, [], _, _, h => absurd ((h x).mp List.mem_cons_self) (by simp)
  | x :: xs, y :: ys, hx, hy, h => by
    obtain ⟨h1, h2⟩ := List.pairwise_cons.mp hx
    obtain ⟨h3, h4⟩ := List.pairwise_cons.mp hy
    have e : x = y := by
      rcases List.mem_cons.mp ((h x).mp List.mem_cons_self) with a | a
      · exact a
      · rcases List.mem_cons.mp ((h y).mpr List.mem_cons_self) with b | b
        · exact b.symm
        · have := h1 y b
          have := h3 x a
          omega
    subst e
    have t := asc_ext h2 h4 fun z => by
      constructor
      · intro hz
        rcases List.mem_cons.mp ((h z).mp (List.mem_cons_of_mem _ hz)) with a | a
        · have := h1 z hz
          omega
        · exact a
      · intro hz
        rcases List.mem_cons.mp ((h z).mpr (List.mem_cons_of_mem _ hz)) with a | a
        · have := h3 z hz
          omega
        · exact a
    rw [t]
def nth0 (ms : List Int) (i : Nat) : Int := ms.getD i 0
theorem nth0_eq {ms : List Int} {i : Nat} (h : i < ms.length) : nth0 ms i = ms[i] := by
  unfold nth0
  rw [List.getD_eq_getElem?_getD, List.getElem?_eq_getElem h]
  rfl
theorem nth0_at {ms : List Int} {i : Nat} (h : i < ms.length) : (ms.map V.int)[i]? = some (.int (nth0 ms i)) := by
  rw [nth0_eq h, List.getElem?_map, List.getElem?_eq_getElem h]
  rfl
theorem nth0_lt {ms : List Int} (a : Asc ms) {i j : Nat} (h : i < j) (hj : j < ms.length) : nth0 ms i < nth0 ms j := by
  rw [nth0_eq (by omega), nth0_eq hj]
  exact List.pairwise_iff_getElem.mp a i j (by omega) hj h
theorem nth0_mem {ms : List Int} {z : Int} : z ∈ ms ↔ ∃ i, i < ms.length ∧ nth0 ms i = z := by
  constructor
  · intro h
    obtain ⟨i, hi, e⟩ := List.getElem_of_mem h
    exact ⟨i, hi, by rw [nth0_eq hi, e]⟩
  · rintro ⟨i, hi, e⟩
    rw [nth0_eq hi] at e
    rw [← e]
    exact List.getElem_mem hi
def gap (ms : List Int) (i : Nat) : Prop := i + 1 = ms.length ∨ 2 ≤ nth0 ms (i + 1) - nth0 ms i
instance (ms : List Int) (i : Nat) : Decidable (gap ms i) := by
  unfold gap
  infer_instance
def piece (ms : List Int) (i : Nat) : List Int := if gap ms i then [nth0 ms i, nth0 ms i + 1] else [nth0 ms i]
def stl (ms : List Int) : Nat → List Int
  | 0 => []
  | k + 1 => stl ms k ++ piece ms k
theorem stl_lt {ms : List Int} (a : Asc ms) : ∀ {k : Nat}, k < ms.length → ∀ z ∈ stl ms k, z < nth0 ms k
  | 0, _, z, hz => nomatch hz
  | k + 1, hk, z, hz => by
    have m := nth0_lt a (show k < k + 1 by omega) hk
    rcases List.mem_append.mp hz with hz | hz
    · have := stl_lt a (by omega) z hz
      omega
    · unfold piece at hz
      split at hz
      · rename_i g
        rcases g with g | g
        · omega
        · simp at hz
          omega
      · simp at hz
        omega
theorem stl_asc {ms : List Int} (a : Asc ms) : ∀ {k : Nat}, k ≤ ms.length → Asc (stl ms k)
  | 0, _ => List.Pairwise.nil
  | k + 1, hk => by
    refine List.pairwise_append.mpr ⟨stl_asc a (by omega), ?_, fun x hx y hy => ?_⟩
    · unfold piece
      split
      · simp
        omega
      · simp
    · have := stl_lt a hk x hx
      unfold piece at hy
      split at hy
      · simp at hy
        omega
      · simp at hy
        omega
theorem stl_mem {ms : List Int} {z : Int} : ∀ {k : Nat}, z ∈ stl ms k ↔ ∃ i, i < k ∧ (z = nth0 ms i ∨ (gap ms i ∧ z = nth0 ms i + 1))
  | 0 => by simp [stl]
  | k + 1 => by
    rw [stl, List.mem_append, stl_mem (k := k)]
    constructor
    · rintro (⟨i, hi, h⟩ | h)
      · exact ⟨i, by omega, h⟩
      · refine ⟨k, by omega, ?_⟩
        unfold piece at h
        split at h
        · rename_i g
          simp at h
          rcases h with h | h
          · exact .inl h
          · exact .inr ⟨g, h⟩
        · simp at h
          exact .inl h
    · rintro ⟨i, hi, h⟩
      by_cases e : i = k
      · subst e
        refine .inr ?_
        unfold piece
        rcases h with h | ⟨g, h⟩
        · split <;> simp [h]
        · rw [if_pos g]
          simp [h]
      · exact .inl ⟨i, by omega, h⟩
theorem stl_all {ms : List Int} (a : Asc ms) (z : Int) : z ∈ stl ms ms.length ↔ z ∈ ms ∨ z - 1 ∈ ms := by
  rw [stl_mem, nth0_mem, nth0_mem]
  constructor
  · rintro ⟨i, hi, h | ⟨_, h⟩⟩
    · exact .inl ⟨i, hi, h.symm⟩
    · exact .inr ⟨i, hi, by omega⟩
  · rintro (⟨i, hi, h⟩ | ⟨i, hi, h⟩)
    · exact ⟨i, hi, .inl h.symm⟩
    · by_cases g : gap ms i
      · exact ⟨i, hi, .inr ⟨g, by omega⟩⟩
      · unfold gap at g
        have m := nth0_lt a (show i < i + 1 by omega) (by omega)
        exact ⟨i + 1, by omega, .inl (by omega)⟩
theorem stl_len (ms : List Int) : ∀ k, (stl ms k).length ≤ 2 * k
  | 0 => Nat.le_refl _
  | k + 1 => by
    have := stl_len ms k
    rw [stl, List.length_append]
    unfold piece
    split <;> simp <;> omega
def sti (ms : List Int) : List V := if ms.length = 0 then [.non, .int 0] else .non :: .int (nth0 ms 0 - 1) :: (stl ms ms.length).map V.int
def spStarts (K : PySem.W.Frag) : Sp := fun vs H Q _ => ∃ (a : Addr) (ms : List Int), vs = [.ref a] ∧ SqL K H a (ms.map V.int) ∧ ms.length ≤ 25 ∧ Asc ms ∧ ∀ p H', H p = none → Same H H' → H' p = some (.lst ((stl ms ms.length).map V.int)) → Q (.ref p) H'
def spStandIns (K : PySem.W.Frag) : Sp := fun vs H Q _ => ∃ (a : Addr) (ms : List Int), vs = [.ref a] ∧ SqL K H a (ms.map V.int) ∧ ms.length ≤ 25 ∧ Asc ms ∧ ∀ p H', H p = none → Same H H' → H' p = some (.lst (sti ms)) → Q (.ref p) H'

/-! ### the stand-in of a value, and its class -/
theorem eqV_int (a b : Int) : eqV (.int a) (.int b) = (a == b) := rfl
theorem in_int (z : Int) : ∀ ms : List Int, inV (.int z) (ms.map V.int) = decide (z ∈ ms)
  | [] => rfl
  | x :: r => by
    have ih := in_int z r
    unfold inV at ih ⊢
    rw [List.map_cons, List.any_cons, ih, eqV_int]
    by_cases e : x = z
    · subst e
      simp
    · have e' : ¬ z = x := fun q => e q.symm
      simp [e, e']
theorem flat_int : ∀ ms : List Int, (ms.map V.int).all flatV = true
  | [] => rfl
  | x :: r => by
    rw [List.map_cons, List.all_cons, flat_int r]
    rfl
theorem in_mem {z : Int} {xs : List V} (h : V.int z ∈ xs) : inV (.int z) xs = true := by
  unfold inV
  rw [List.any_eq_true]
  exact ⟨_, h, by rw [eqV_int]; simp⟩
def oi : Option Int → V
  | none => .non
  | some z => .int z
def below (ms : List Int) (z : Int) : List Int := ms.filter fun n => decide (n < z)
def lst (ls : List Int) : Int := nth0 ls (ls.length - 1)
def cls (ms : List Int) (z : Int) : Int := 2 * ((below ms z).length : Int) + if z ∈ ms then 1 else 0
def clsO (ms : List Int) : Option Int → Int
  | none => -1
  | some z => cls ms z
def stn (ms : List Int) (z : Int) : Int := if z ∈ ms then z else if ms = [] then 0 else if below ms z = [] then nth0 ms 0 - 1 else lst (below ms z) + 1
def stnO (ms : List Int) (v : Option Int) : Option Int := v.map (stn ms)
theorem mem_below {ms : List Int} {z n : Int} : n ∈ below ms z ↔ n ∈ ms ∧ n < z := by simp [below]
theorem asc_below {ms : List Int} (a : Asc ms) (z : Int) : Asc (below ms z) := List.Pairwise.filter _ a
theorem nth0_le {ms : List Int} (a : Asc ms) {i j : Nat} (h : i ≤ j) (hj : j < ms.length) : nth0 ms i ≤ nth0 ms j := by
  rcases Nat.lt_or_ge i j with q | q
  · exact Int.le_of_lt (nth0_lt a q hj)
  · have : i = j := by omega
    subst this
    exact Int.le_refl _
theorem lst_mem {ls : List Int} (h : ls ≠ []) : lst ls ∈ ls := by
  have : 0 < ls.length := List.length_pos_iff.mpr h
  exact nth0_mem.mpr ⟨ls.length - 1, by omega, rfl⟩
theorem lst_max {ls : List Int} (a : Asc ls) {n : Int} (h : n ∈ ls) : n ≤ lst ls := by
  obtain ⟨i, hi, e⟩ := nth0_mem.mp h
  rw [← e]
  exact nth0_le a (by omega) (by omega)
theorem hd_min {ls : List Int} (a : Asc ls) {n : Int} (h : n ∈ ls) : nth0 ls 0 ≤ n := by
  obtain ⟨i, hi, e⟩ := nth0_mem.mp h
  rw [← e]
  exact nth0_le a (by omega) hi
theorem lst_at {ls : List Int} (h : ls ≠ []) : atI (ls.map V.int) (-1) = some (.int (lst ls)) := by
  have l : 0 < ls.length := List.length_pos_iff.mpr h
  unfold atI ixN
  rw [if_neg (by omega), if_pos (by rw [List.length_map]; omega), List.length_map]
  show (ls.map V.int)[((-1 : Int) + ls.length).toNat]? = _
  rw [show ((-1 : Int) + ls.length).toNat = ls.length - 1 by omega]
  exact nth0_at (by omega)
theorem lst_atL {ls : List Int} (h : ls ≠ []) : atI (ls.map V.int) ((ls.length : Int) - 1) = some (.int (lst ls)) := by
  have l : 0 < ls.length := List.length_pos_iff.mpr h
  rw [show ((ls.length : Int) - 1) = ((ls.length - 1 : Nat) : Int) by omega]
  exact atI_nat (nth0_at (by omega))
theorem stn_alike {ms : List Int} (a : Asc ms) {n z : Int} (h : n ∈ ms) : (z < n ↔ stn ms z < n) ∧ (z = n ↔ stn ms z = n) := by
  unfold stn
  by_cases hz : z ∈ ms
  · rw [if_pos hz]
    exact ⟨.rfl, .rfl⟩
  · have hne : z ≠ n := fun e => hz (e ▸ h)
    rw [if_neg hz, if_neg (List.ne_nil_of_mem h)]
    by_cases hb : below ms z = []
    · rw [if_pos hb]
      have q : ¬ n < z := fun q => by
        have := mem_below.mpr ⟨h, q⟩
        rw [hb] at this
        cases this
      have := hd_min a h
      constructor <;> constructor <;> intro _ <;> omega
    · rw [if_neg hb]
      have l := mem_below.mp (lst_mem hb)
      by_cases q : n < z
      · have := lst_max (asc_below a z) (mem_below.mpr ⟨h, q⟩)
        constructor <;> constructor <;> intro _ <;> omega
      · constructor <;> constructor <;> intro _ <;> omega
theorem below_congr {ms : List Int} {z y : Int} (h : ∀ n ∈ ms, n < z ↔ n < y) : below ms z = below ms y := List.filter_congr fun n hn => by simp [h n hn]
theorem cls_of {ms : List Int} {z y : Int} (h : ∀ n ∈ ms, n < z ↔ n < y) (m : z ∈ ms ↔ y ∈ ms) : cls ms z = cls ms y := by
  unfold cls
  rw [below_congr h]
  simp [m]
theorem cls_stn {ms : List Int} (a : Asc ms) (z : Int) : cls ms (stn ms z) = cls ms z := by
  refine cls_of (fun n hn => ?_) ⟨fun h => ?_, fun h => ?_⟩
  · have := stn_alike a hn (z := z)
    constructor <;> intro _ <;> omega
  · have := (stn_alike a h (z := z)).2.mpr rfl
    rw [this]
    exact h
  · have := (stn_alike a h (z := z)).2.mp rfl
    rw [this]
    exact h
theorem below_mono {ms : List Int} {z y : Int} (h : z ≤ y) : below ms z = (below ms y).filter fun n => decide (n < z) := by
  unfold below
  rw [List.filter_filter]
  refine List.filter_congr fun n _ => ?_
  by_cases q : n < z
  · simp [q]
    omega
  · simp [q]
theorem below_eq {ms : List Int} {z y : Int} (h : (below ms z).length = (below ms y).length) : below ms z = below ms y := by
  rcases Int.le_total z y with q | q
  · have e := below_mono (ms := ms) q
    have s : (below ms z).Sublist (below ms y) := by
      rw [e]
      exact List.filter_sublist
    exact s.eq_of_length h
  · have e := below_mono (ms := ms) q
    have s : (below ms y).Sublist (below ms z) := by
      rw [e]
      exact List.filter_sublist
    exact (s.eq_of_length h.symm).symm
theorem cls_parts {ms : List Int} {z y : Int} (h : cls ms z = cls ms y) : below ms z = below ms y ∧ (z ∈ ms ↔ y ∈ ms) := by
  unfold cls at h
  by_cases hz : z ∈ ms <;> by_cases hy : y ∈ ms
  · rw [if_pos hz, if_pos hy] at h
    exact ⟨below_eq (by omega), by simp [hz, hy]⟩
  · rw [if_pos hz, if_neg hy] at h
    omega
  · rw [if_neg hz, if_pos hy] at h
    omega
  · rw [if_neg hz, if_neg hy] at h
    exact ⟨below_eq (by omega), by simp [hz, hy]⟩
theorem cls_mem {ms : List Int} {z y : Int} (h : cls ms z = cls ms y) (hz : z ∈ ms) : z = y := by
  obtain ⟨e, m⟩ := cls_parts h
  have hy := m.mp hz
  rcases Int.lt_trichotomy z y with q | q | q
  · have := mem_below.mpr ⟨hz, q⟩
    rw [← e] at this
    have := (mem_below.mp this).2
    omega
  · exact q
  · have := mem_below.mpr ⟨hy, q⟩
    rw [e] at this
    have := (mem_below.mp this).2
    omega
theorem stn_cls {ms : List Int} {z y : Int} (h : cls ms z = cls ms y) : stn ms z = stn ms y := by
  by_cases hz : z ∈ ms
  · rw [cls_mem h hz]
  · obtain ⟨e, m⟩ := cls_parts h
    unfold stn
    rw [if_neg hz, if_neg (fun q => hz (m.mpr q)), e]
theorem stn_iff {ms : List Int} (a : Asc ms) {z y : Int} : stn ms z = stn ms y ↔ cls ms z = cls ms y :=
  ⟨fun h => by rw [← cls_stn a z, ← cls_stn a y, h], stn_cls⟩
theorem stn_stn {ms : List Int} (a : Asc ms) (z : Int) : stn ms (stn ms z) = stn ms z := stn_cls (cls_stn a z)
theorem cls_pos (ms : List Int) (z : Int) : 0 ≤ cls ms z := by
  unfold cls
  split <;> omega
theorem stnO_iff {ms : List Int} (a : Asc ms) : ∀ {v u : Option Int}, stnO ms v = stnO ms u ↔ clsO ms v = clsO ms u
  | none, none => by simp
  | none, some u => by
    have := cls_pos ms u
    simp [stnO, clsO]
    omega
  | some v, none => by
    have := cls_pos ms v
    simp [stnO, clsO]
    omega
  | some v, some u => by
    simp only [stnO, clsO, Option.map_some, Option.some.injEq]
    exact stn_iff a
theorem sti_mem {ms : List Int} (a : Asc ms) : ∀ v : Option Int, inV (oi (stnO ms v)) (sti ms) = true
  | none => by
    unfold sti
    split <;> rfl
  | some z => by
    refine in_mem (z := stn ms z) ?_
    unfold sti
    by_cases e : ms.length = 0
    · have e' := List.length_eq_zero_iff.mp e
      subst e'
      simp [stn]
    · rw [if_neg e]
      unfold stn
      have e' : ms ≠ [] := fun q => e (by rw [q]; rfl)
      by_cases hz : z ∈ ms
      · rw [if_pos hz]
        exact List.mem_cons_of_mem _ (List.mem_cons_of_mem _ (List.mem_map.mpr ⟨z, (stl_all a z).mpr (.inl hz), rfl⟩))
      · rw [if_neg hz, if_neg e']
        by_cases hb : below ms z = []
        · rw [if_pos hb]
          exact List.mem_cons_of_mem _ List.mem_cons_self
        · rw [if_neg hb]
          have l := mem_below.mp (lst_mem hb)
          refine List.mem_cons_of_mem _ (List.mem_cons_of_mem _ (List.mem_map.mpr ⟨_, (stl_all a _).mpr (.inr ?_), rfl⟩))
          rw [show lst (below ms z) + 1 - 1 = lst (below ms z) by omega]
          exact l.1
theorem flat_sti (ms : List Int) : (sti ms).all flatV = true := by
  unfold sti
  split
  · rfl
  · show (V.non :: V.int _ :: _).all flatV = true
    rw [List.all_cons, List.all_cons, flat_int]
    rfl
theorem dec_oi {v u : Option Int} : decide (oi v = oi u) = decide (v = u) := by
  cases v <;> cases u <;> simp [oi]
theorem scal_oi : ∀ v u : Option Int, scal (oi v) (oi u) = true
  | none, none => rfl
  | none, some _ => rfl
  | some _, none => rfl
  | some _, some _ => rfl
theorem flat_oi : ∀ v : Option Int, flatV (oi v) = true
  | none => rfl
  | some _ => rfl

/-! ### a walk by what holds ahead of each turn -/
section
variable {K : PySem.W.Frag} {a : Addr} {xs : List V} {G0 : Hp} {Qd : Hp → Prop} {B : V → Hp → (Hp → Prop) → Prop}
theorem walkL (Pv : Nat → Hp → Prop) (h0 : Pv 0 G0) (hl : ∀ i H, i ≤ xs.length → Pv i H → SqL K H a xs) (hs : ∀ i x H, xs[i]? = some x → Pv i H → B x H (Pv (i + 1))) (hd : ∀ H, Pv xs.length H → Qd H) :
    ∃ W : Nat → Nat → Hp → Prop, (∃ m, W 0 m G0) ∧ ∀ i m H, W i m H → ((Itl K a).stop i H ∧ Qd H) ∨ ((Itl K a).go i H ∧ ∃ Nx : Hp → Prop, (∀ H', Nx H' → ∃ m', m' < m ∧ W (i + 1) m' H') ∧ ∀ x H', (Itl K a).yld i H x H' → B x H' Nx) := by
  refine ⟨fun i m H => m = xs.length - i ∧ i ≤ xs.length ∧ Pv i H, ⟨xs.length, rfl, Nat.zero_le _, h0⟩, fun i m H hw => ?_⟩
  obtain ⟨rfl, hi, p⟩ := hw
  have q := hl i H hi p
  by_cases lt : i < xs.length
  · refine .inr ⟨⟨xs, xs[i], q, List.getElem?_eq_getElem lt⟩, Pv (i + 1), fun H' n => ⟨xs.length - (i + 1), by omega, rfl, lt, n⟩, fun x H' hy => ?_⟩
    obtain ⟨rfl, hx⟩ := hy
    exact hs i x H' (hx xs q) p
  · refine .inl ⟨⟨xs, q, by omega⟩, hd H ?_⟩
    have e : i = xs.length := by omega
    exact e ▸ p
theorem walkT (Pv : Nat → Hp → Prop) (h0 : Pv 0 G0) (hl : ∀ i H, i ≤ xs.length → Pv i H → SqT K H a xs) (hs : ∀ i x H, xs[i]? = some x → Pv i H → B x H (Pv (i + 1))) (hd : ∀ H, Pv xs.length H → Qd H) :
    ∃ W : Nat → Nat → Hp → Prop, (∃ m, W 0 m G0) ∧ ∀ i m H, W i m H → ((Itt K a).stop i H ∧ Qd H) ∨ ((Itt K a).go i H ∧ ∃ Nx : Hp → Prop, (∀ H', Nx H' → ∃ m', m' < m ∧ W (i + 1) m' H') ∧ ∀ x H', (Itt K a).yld i H x H' → B x H' Nx) := by
  refine ⟨fun i m H => m = xs.length - i ∧ i ≤ xs.length ∧ Pv i H, ⟨xs.length, rfl, Nat.zero_le _, h0⟩, fun i m H hw => ?_⟩
  obtain ⟨rfl, hi, p⟩ := hw
  have q := hl i H hi p
  by_cases lt : i < xs.length
  · refine .inr ⟨⟨xs, xs[i], q, List.getElem?_eq_getElem lt⟩, Pv (i + 1), fun H' n => ⟨xs.length - (i + 1), by omega, rfl, lt, n⟩, fun x H' hy => ?_⟩
    obtain ⟨rfl, hx⟩ := hy
    exact hs i x H' (hx xs q) p
  · refine .inl ⟨⟨xs, q, by omega⟩, hd H ?_⟩
    have e : i = xs.length := by omega
    exact e ▸ p
end
section
variable {σ : L2.St} {H : Hp} {Q : VK}
theorem c_lc2 {wi : TI} {g : TG} {tt : TT} {wi1 : TI} {g1 : TG} {tt1 : TT} {te : TE} {vs vs1 : List Nat} (h : wi σ H fun J H1 => ∀ D, H1 D = none → ∃ W : Nat → Nat → Hp → Prop, (∃ m, W 0 m (upd H1 D (.lst []))) ∧ ∀ i m H, W i m H →
  (J.stop i H ∧ Q (.ref D) H) ∨ (J.go i H ∧ ∃ Nx : Hp → Prop, (∀ H', Nx H' → ∃ m', m' < m ∧ W (i + 1) m' H') ∧ ∀ x H', J.yld i H x H' → g x (wipe σ vs) H' fun σ2 H2 => wipe σ2 vs = wipe σ vs ∧ tt σ2 H2 fun b H3 =>
    if b = true then wi1 σ2 H3 fun J1 H4 => ∃ W1 : Nat → Nat → Hp → Prop, (∃ m, W1 0 m H4) ∧ ∀ j k H, W1 j k H →
      (J1.stop j H ∧ Nx H) ∨ (J1.go j H ∧ ∃ Nx1 : Hp → Prop, (∀ H', Nx1 H' → ∃ k', k' < k ∧ W1 (j + 1) k' H') ∧ ∀ x H', J1.yld j H x H' → g1 x (wipe σ2 vs1) H' fun σ3 H5 => wipe σ3 vs1 = wipe σ2 vs1 ∧ tt1 σ3 H5 fun b H6 =>
        if b = true then te σ3 H6 fun y H7 => ∃ acc, H7 D = some (.lst acc) ∧ acc.length < sizeLine ∧ Nx1 (upd H7 D (.lst (acc ++ [y]))) else Nx1 H6)
    else Nx H3)) : tLc2 wi g tt wi1 g1 tt1 te vs vs1 σ H Q := h
theorem c_scI {w : World} {wi : TI} {g : TG} {tt : TT} {te : TE} {vs : List Nat} (h : wi σ H fun J H1 => ∀ D, H1 D = none → ∃ W : Nat → Nat → Hp → Prop, (∃ m, W 0 m (upd H1 D (SetO w D (fun _ => false) 0))) ∧ ∀ i m G, W i m G →
  (J.stop i G ∧ Q (.ref D) G) ∨ (J.go i G ∧ ∃ Nx : Hp → Prop, (∀ G', Nx G' → ∃ m', m' < m ∧ W (i + 1) m' G') ∧ ∀ x G', J.yld i G x G' → g x (wipe σ vs) G' fun σ2 H2 => wipe σ2 vs = wipe σ vs ∧ tt σ2 H2 fun b H3 =>
    if b = true then te σ2 H3 fun y H4 => ∃ (k : Int) (S : Int → Bool) (n : Nat), y = .int k ∧ H4 D = some (SetO w D S n) ∧ n + 1 < scanBound ∧ Nx (upd H4 D (SetO w D (fun j => S j || decide (j = k)) (if S k = true then n else n + 1))) else Nx H3)) : tScI w wi g tt te vs σ H Q := h
theorem c_iTup {K : PySem.W.Frag} {tl : TE} {R : It → Hp → Prop} (h : tl σ H fun x H1 => ∃ a, x = .ref a ∧ (∃ xs, SqT K H1 a xs) ∧ R (Itt K a) H1) : iTup K tl σ H R := h
theorem c_iList {K : PySem.W.Frag} {tl : TE} {R : It → Hp → Prop} (h : tl σ H fun x H1 => ∃ a, x = .ref a ∧ (∃ xs, SqL K H1 a xs) ∧ R (Itl K a) H1) : iList K tl σ H R := h
end

/-! ### the comparisons of a tree -/
abbrev Cm := Str × Nat × Int
mutual
def cmps : Tr → List Cm
  | .cmp s c n => [(s, c, n)]
  | .mis _ => []
  | .neg t => cmps t
  | .unt t => cmps t
  | .jn _ ts => cmpsL ts
def cmpsL : List Tr → List Cm
  | [] => []
  | t :: ts => cmps t ++ cmpsL ts
end
theorem cmpsL_map : ∀ ts, cmpsL ts = ts.flatMap cmps
  | [] => rfl
  | t :: ts => by
    rw [cmpsL, cmpsL_map ts]
    rfl
theorem cmpsL_app (a b : List Tr) : cmpsL (a ++ b) = cmpsL a ++ cmpsL b := by rw [cmpsL_map, cmpsL_map, cmpsL_map, List.flatMap_append]
theorem cmpsL_one (t : Tr) : cmpsL [t] = cmps t := by rw [cmpsL, cmpsL, List.append_nil]
theorem cmps_kids {t : Tr} (h : ∀ s c n, t ≠ .cmp s c n) : cmps t = cmpsL (kids t) := by
  cases t with
  | cmp s c n => exact absurd rfl (h s c n)
  | mis c => simp [cmps, kids, cmpsL]
  | neg t => rw [cmps, kids, cmpsL_one]
  | unt t => rw [cmps, kids, cmpsL_one]
  | jn e ts => rw [cmps, kids]
def scm1 : Stp → List Cm
  | .cmp s c n => [(s, c, n)]
  | _ => []
theorem cmps_ex1 {ts : List Tr} {s : Stp} (h : s.need ≤ ts.length) : cmpsL (ex1 ts s) = cmpsL ts ++ scm1 s := by
  cases s with
  | cmp s c n =>
    show cmpsL (ts ++ [.cmp s c n]) = _
    rw [cmpsL_app, cmpsL_one, cmps, scm1]
  | mis c =>
    show cmpsL (ts ++ [.mis c]) = _
    rw [cmpsL_app, cmpsL_one, cmps]
    rfl
  | neg =>
    obtain ⟨us, t, rfl⟩ := snocT h
    rw [ex1_neg, cmpsL_app, cmpsL_app, cmpsL_one, cmpsL_one, cmps]
    exact (List.append_nil _).symm
  | unt =>
    obtain ⟨us, t, rfl⟩ := snocT h
    rw [ex1_unt, cmpsL_app, cmpsL_app, cmpsL_one, cmpsL_one, cmps]
    exact (List.append_nil _).symm
  | jn e k =>
    obtain ⟨us, ws, rfl, rfl⟩ := splitT h
    rw [ex1_jn, cmpsL_app, cmpsL_app, cmpsL_one, cmps]
    exact (List.append_nil _).symm
def scm : List Stp → List Cm
  | [] => []
  | .cmp s c n :: r => (s, c, n) :: scm r
  | _ :: r => scm r
theorem scm_app : ∀ (a b : List Stp), scm (a ++ b) = scm a ++ scm b
  | [], _ => rfl
  | .cmp s c n :: r, b => by
    show (s, c, n) :: scm (r ++ b) = _
    rw [scm_app r b]
    rfl
  | .mis _ :: r, b => scm_app r b
  | .neg :: r, b => scm_app r b
  | .unt :: r, b => scm_app r b
  | .jn _ _ :: r, b => scm_app r b
theorem cmps_exs {ss : List Stp} (v : Valid ss) : ∀ {i : Nat}, i ≤ ss.length → cmpsL (exs (ss.take i)) = scm (ss.take i)
  | 0, _ => by rw [List.take_zero]; rfl
  | i + 1, hi => by
    have hs : ss[i]? = some ss[i] := List.getElem?_eq_getElem hi
    have ih := cmps_exs v (i := i) (by omega)
    rw [exs_take hs, cmps_ex1 (v i _ hs), ih, List.take_succ_eq_append_getElem hi, scm_app]
    congr 1
    cases ss[i] <;> rfl
theorem cmps_tree {ss : List Stp} {t : Tr} (v : Valid ss) (h : exs ss = [t]) : cmps t = scm ss := by
  have := cmps_exs v (Nat.le_refl ss.length)
  rw [List.take_length, h, cmpsL_one] at this
  exact this
theorem mem_scm {s : Str} {c : Nat} {n : Int} : ∀ {ss : List Stp}, (s, c, n) ∈ scm ss ↔ Stp.cmp s c n ∈ ss
  | [] => by simp [scm]
  | .cmp s' c' n' :: r => by
    show (s, c, n) ∈ (s', c', n') :: scm r ↔ _
    rw [List.mem_cons, mem_scm (ss := r), List.mem_cons]
    simp
  | .mis _ :: r => by
    show (s, c, n) ∈ scm r ↔ _
    rw [mem_scm (ss := r), List.mem_cons]
    simp
  | .neg :: r => by
    show (s, c, n) ∈ scm r ↔ _
    rw [mem_scm (ss := r), List.mem_cons]
    simp
  | .unt :: r => by
    show (s, c, n) ∈ scm r ↔ _
    rw [mem_scm (ss := r), List.mem_cons]
    simp
  | .jn _ _ :: r => by
    show (s, c, n) ∈ scm r ↔ _
    rw [mem_scm (ss := r), List.mem_cons]
    simp
theorem PTr.few {K : PySem.W.Frag} {w : Nat} {H : Hp} {v : V} {t : Tr} {m : Nat} (h : PTr K w H v t m) : (cmps t).length ≤ m :=
  h.rec (motive_1 := fun v t m _ => (cmps t).length ≤ m) (motive_2 := fun vs ts m _ => (cmpsL ts).length ≤ m)
    (fun _ _ _ _ _ => by rw [cmps]; exact Nat.le_refl _) (fun _ _ => by rw [cmps]; exact Nat.zero_le _) (fun _ _ ih => by rw [cmps]; omega) (fun _ _ ih => by rw [cmps]; omega) (fun _ _ ih => by rw [cmps]; omega)
    (Nat.zero_le _) (fun _ _ a b => by rw [cmpsL, List.length_append]; omega)
theorem PTrs.few {K : PySem.W.Frag} {w : Nat} {H : Hp} {vs : List V} {ts : List Tr} {m : Nat} (h : PTrs K w H vs ts m) : (cmpsL ts).length ≤ m :=
  h.rec (motive_1 := fun v t m _ => (cmps t).length ≤ m) (motive_2 := fun vs ts m _ => (cmpsL ts).length ≤ m)
    (fun _ _ _ _ _ => by rw [cmps]; exact Nat.le_refl _) (fun _ _ => by rw [cmps]; exact Nat.zero_le _) (fun _ _ ih => by rw [cmps]; omega) (fun _ _ ih => by rw [cmps]; omega) (fun _ _ ih => by rw [cmps]; omega)
    (Nat.zero_le _) (fun _ _ a b => by rw [cmpsL, List.length_append]; omega)
/-- the values are these comparisons -/
inductive CL (K : PySem.W.Frag) (H : Hp) : List V → List Cm → Prop where
  | nil : CL K H [] []
  | cons {a : Addr} {s : Str} {c : Nat} {n : Int} {xs : List V} {cs : List Cm} (h : SqT K H a [.str s, .int (c : Int), .int n]) (t : CL K H xs cs) : CL K H (.ref a :: xs) ((s, c, n) :: cs)
section
variable {K : PySem.W.Frag} {H H' : Hp}
theorem CL.keep {xs : List V} {cs : List Cm} (h : CL K H xs cs) (e : Tp H H') : CL K H' xs cs := by
  induction h with
  | nil => exact .nil
  | cons h _ ih => exact .cons (e.tup h) ih
theorem CL.len {xs : List V} {cs : List Cm} (h : CL K H xs cs) : xs.length = cs.length := by
  induction h with
  | nil => rfl
  | cons _ _ ih => rw [List.length_cons, List.length_cons, ih]
theorem CL.app {xs ys : List V} {cs ds : List Cm} (h : CL K H xs cs) (g : CL K H ys ds) : CL K H (xs ++ ys) (cs ++ ds) := by
  induction h with
  | nil => exact g
  | cons h _ ih => exact .cons h ih
theorem CL.get {xs : List V} {cs : List Cm} (h : CL K H xs cs) : ∀ {i : Nat} {x : V}, xs[i]? = some x → ∃ a s c n, x = V.ref a ∧ cs[i]? = some (s, c, n) ∧ SqT K H a [.str s, .int (c : Int), .int n] := by
  induction h with
  | nil =>
    intro i x hx
    simp at hx
  | cons h _ ih =>
    intro i x hx
    cases i with
    | zero => exact ⟨_, _, _, _, (Option.some.inj hx).symm, rfl, h⟩
    | succ i => exact ih hx
end
theorem nodup_le : ∀ {ds us : List Int}, ds.Nodup → (∀ z ∈ ds, z ∈ us) → ds.length ≤ us.length
  | [], _, _, _ => Nat.zero_le _
  | d :: r, us, hn, hs => by
    obtain ⟨h1, h2⟩ := List.nodup_cons.mp hn
    have hd := hs d List.mem_cons_self
    have ih := nodup_le (ds := r) (us := us.erase d) h2 fun z hz => (List.mem_erase_of_ne fun e => h1 (by rw [← e]; exact hz)).mpr (hs z (List.mem_cons_of_mem _ hz))
    rw [List.length_erase_of_mem hd] at ih
    have := List.length_pos_of_mem hd
    rw [List.length_cons]
    omega

section Tac1
/-! ### the words: "rd" goes on as far as it can; "hp" finds what stands at an address; "t" "f" a test that is known -/
local macro_rules | `(tactic| walk_at "h0") => `(tactic| first | assumption | exact upd_same)
local macro_rules | `(tactic| walk_at "n0") => `(tactic| first
  | assumption | (apply Ne.symm; assumption) | exact ne_nn (by assumption) (by walk_at "h0") | exact ne_nn' (by assumption) (by walk_at "h0"))
local macro_rules | `(tactic| walk_at "hq") => `(tactic| first
  | assumption | exact upd_same | exact (upd_ne (by walk_at "n0")).trans (by walk_at "hq"))
local macro_rules | `(tactic| walk_at "ne") => `(tactic| first
  | assumption | (apply Ne.symm; assumption) | exact ne_nn (by assumption) (by walk_at "hq") | exact ne_nn' (by assumption) (by walk_at "hq"))
local macro_rules | `(tactic| walk_at "hp") => `(tactic| first
  | assumption
  | exact upd_same
  | exact (upd_ne (by walk_at "ne")).trans (by walk_at "hp")
  | exact same_at (by assumption) (by walk_at "hp")
  | exact ex_at (by assumption) (by walk_at "ne") (by walk_at "hp"))
local macro_rules | `(tactic| walk_at "sm") => `(tactic| first
  | assumption
  | exact Same.refl _
  | exact same_new (by walk_at "sm") (by assumption)
  | exact same_mut (by walk_at "sm") (by assumption))
local macro_rules | `(tactic| walk_at "ex") => `(tactic| first
  | assumption
  | exact Ex.refl _ _
  | exact Ex.new (by walk_at "ex") (by assumption)
  | exact Ex.mut (by walk_at "ex") (by assumption)
  | exact Ex.at (by walk_at "ex"))
local macro_rules | `(tactic| walk_at "sa") => `(tactic| first
  | assumption
  | exact seq' (by assumption) (by walk_at "sm")
  | exact tup' (by assumption) (by walk_at "sm"))
local macro_rules | `(tactic| walk_at "sq") => `(tactic| first
  | assumption
  | exact seq' (by assumption) (by walk_at "sm")
  | exact tup' (by assumption) (by walk_at "sm")
  | exact sql (by walk_at "hp")
  | exact sqt (by walk_at "hp"))
local macro_rules | `(tactic| walk_at "tt") => `(tactic| first | (simp; done) | (simp; omega))
local macro_rules | `(tactic| walk_at "tf") => `(tactic| first
  | ((with_reducible show if _ = true then _ else _); refine i_T (by walk_at "tt") ?_)
  | ((with_reducible show if _ = true then _ else _); refine i_F (by walk_at "tt") ?_))
local macro_rules | `(tactic| walk_at "ix") => `(tactic| first
  | exact ixn (j := 0) (by simp)
  | exact ixn (j := 1) (by simp)
  | exact ixn (j := 2) (by simp)
  | exact ixn (j := 3) (by simp)
  | exact ixn (j := 4) (by simp)
  | exact ixn (j := 5) (by simp)
  | exact ixn (j := 6) (by simp)
  | exact ixn (j := 7) (by simp))
local macro_rules | `(tactic| walk_at "at") => `(tactic| first
  | exact atI_nat (j := 0) (by rfl)
  | exact atI_nat (j := 1) (by rfl)
  | exact atI_nat (j := 2) (by rfl)
  | exact atI_nat (j := 3) (by rfl)
  | exact atI_nat (j := 4) (by rfl)
  | exact atI_nat (j := 5) (by rfl)
  | exact atI_nat (j := 6) (by rfl)
  | exact atI_nat (j := 7) (by rfl))
local macro_rules | `(tactic| walk_at "rd1") => `(tactic| first
  | with_reducible refine c_seq ?_
  | with_reducible refine c_asg ?_
  | ((with_reducible refine c_gname ?_); try dsimp only [List.set])
  | with_reducible refine c_ret ?_
  | with_reducible refine c_ifs ?_
  | ((with_reducible show tVar _ _ _ _); refine c_var (by rfl) ?_)
  | with_reducible refine c_c ?_
  | with_reducible refine c_op ?_
  | with_reducible refine c_un ?_
  | with_reducible refine c_test ?_
  | with_reducible refine c_B ?_
  | with_reducible refine c_CB ?_
  | with_reducible refine c_cons ?_
  | with_reducible refine c_nil ?_
  | with_reducible refine c_call ?_
  | with_reducible refine c_lst ?_
  | with_reducible refine c_tup ?_
  | with_reducible refine c_drop ?_
  | with_reducible refine c_gsub ?_
  | with_reducible refine c_BM ?_
  | with_reducible refine c_BM0 ?_
  | with_reducible refine c_and ?_
  | with_reducible refine c_or ?_
  | with_reducible refine c_not ?_
  | with_reducible refine c_andV ?_
  | with_reducible refine c_orV ?_
  | with_reducible refine c_notV ?_
  | with_reducible refine c_if ?_
  | with_reducible refine c_chain ?_
  | with_reducible refine c_next ?_
  | with_reducible refine c_retN ?_
  | with_reducible refine c_yes ?_
  | ((with_reducible show rIn _ _ (V.bl _) _ _ _); first | refine r_inL (by walk_at "sq") rfl (flat_bl _) ?_ | refine r_inL (by walk_at "sq") rfl (by rfl) ?_)
  | with_reducible refine r_I0 ?_
  | with_reducible refine r_U ?_
  | with_reducible refine r_eqI ?_
  | with_reducible refine r_neI ?_
  | with_reducible refine r_eqB ?_
  | with_reducible refine r_neB ?_
  | with_reducible refine r_eqS ?_
  | with_reducible refine r_neS ?_
  | ((with_reducible show rIxL _ _ (V.int (OfNat.ofNat _)) _ _); refine r_ixL (by walk_at "sq") (by walk_at "at") ?_)
  | ((with_reducible show rIxT _ _ (V.int (OfNat.ofNat _)) _ _); refine r_ixT (by walk_at "sq") (by walk_at "at") ?_)
  | ((with_reducible show rI CMul _ _ _ _ _); refine r_I (by first | exact .inl ⟨by omega, by omega⟩ | exact .inr ⟨by omega, by omega⟩) ?_)
  | ((with_reducible show rI CDiv _ _ _ _ _); refine r_I ⟨by omega, by omega⟩ ?_)
  | ((with_reducible show rI (fun _ _ => _) _ _ _ _ _); refine r_I (by first | assumption | omega | decide) ?_)
  | with_reducible refine r_pow18 ?_
  | with_reducible refine r_pow17 ?_
  | ((with_reducible show rSetL _ _ _ _ _); refine r_setL (by walk_at "hp") (by walk_at "ix") ?_; try dsimp only [List.set]; try simp only [upd_upd])
  | ((with_reducible show tyV _ _ _ _ ∧ _); refine ⟨.inl ⟨rfl, _, by walk_at "sq"⟩, ?_⟩)
  | ((with_reducible show rPop _ _ _ _); refine r_pop (by walk_at "hp") ?_)
  | ((with_reducible show rAppend _ _ _ _); refine r_app (by walk_at "hp") (by first | assumption | exact smallLt (by omega) | exact smallLt (by simp <;> omega)) ?_)
  | ((with_reducible show _ ≤ sizeLine ∧ _); refine ⟨small (by simp), ?_⟩)
  | ((with_reducible show V.non = V.non ∧ _); refine ⟨rfl, ?_⟩)
  | with_reducible refine iteT ?_
  | with_reducible refine iteF ?_
  | with_reducible refine ⟨_, rfl, ?_⟩
  | with_reducible refine ⟨_, _, rfl, ?_⟩
  | with_reducible refine Or.inl ⟨_, rfl, ?_⟩
  | with_reducible refine Or.inr ⟨_, rfl, ?_⟩
  | ((with_reducible show ∃ _ _, [_] = [_] ∧ _); first
    | refine ⟨_, _, rfl, Or.inl (by walk_at "sa"), ?_⟩ | refine ⟨_, _, rfl, Or.inr (by walk_at "sa"), ?_⟩
    | refine ⟨_, _, rfl, Or.inl (by exact sql (by walk_at "hp")), ?_⟩ | refine ⟨_, _, rfl, Or.inr (by exact sqt (by walk_at "hp")), ?_⟩))
local macro_rules | `(tactic| walk_at "nw") => `(tactic| (intro _ _))
local macro_rules | `(tactic| walk_at "rdn") => `(tactic| repeat (first | walk_at "rd1" | ((with_reducible show ∀ _ : Addr, _ = none → _); intro _ _)))
local macro_rules | `(tactic| walk_at "rd") => `(tactic| repeat walk_at "rd1")

def topS (i : Nat) : Stmt := PySem.Challenge.pw_wholepages_k12_numbers_of.main.body.getD i (.Pass ⟨0, 0, 0, 0⟩)
abbrev s_parts_of : Stmt := topS 2
abbrev N_parts_of : List Str := ["predicate"]
theorem sc_parts_of : FnScope N_parts_of ["predicate"] (defScope s_parts_of) := ⟨rfl, rfl, rfl, by decide +kernel, rfl, by decide +kernel, by decide +kernel⟩
abbrev s_comparisons_of : Stmt := topS 3
abbrev N_comparisons_of : List Str := ["predicate", "part", "found"]
theorem sc_comparisons_of : FnScope N_comparisons_of ["predicate"] (defScope s_comparisons_of) := ⟨rfl, rfl, rfl, by decide +kernel, rfl, by decide +kernel, by decide +kernel⟩
abbrev s_numbers_of : Stmt := topS 5
abbrev N_numbers_of : List Str := ["predicates", "column", "found", "predicate", "node"]
theorem sc_numbers_of : FnScope N_numbers_of ["predicates", "column"] (defScope s_numbers_of) := ⟨rfl, rfl, rfl, by decide +kernel, rfl, by decide +kernel, by decide +kernel⟩
abbrev s__law_stream : Stmt := topS 7
abbrev N__law_stream : List Str := ["_law_script"]
theorem sc__law_stream : FnScope N__law_stream ["_law_script"] (defScope s__law_stream) := ⟨rfl, rfl, rfl, by decide +kernel, rfl, by decide +kernel, by decide +kernel⟩
abbrev s__law_draw : Stmt := topS 8
abbrev N__law_draw : List Str := ["_law_stream_here", "_law_many", "_law_place", "_law_cell", "_law_number_here"]
theorem sc__law_draw : FnScope N__law_draw ["_law_stream_here", "_law_many"] (defScope s__law_draw) := ⟨rfl, rfl, rfl, by decide +kernel, rfl, by decide +kernel, by decide +kernel⟩
abbrev s__law_number : Stmt := topS 9
abbrev N__law_number : List Str := ["_law_stream_here", "_law_most", "_law_kind"]
theorem sc__law_number : FnScope N__law_number ["_law_stream_here", "_law_most"] (defScope s__law_number) := ⟨rfl, rfl, rfl, by decide +kernel, rfl, by decide +kernel, by decide +kernel⟩
abbrev s__law_pool : Stmt := topS 10
abbrev N__law_pool : List Str := ["_law_stream_here", "_law_wide", "_law_pool_here", "_law_c", "_law_numbers", "_law_k"]
theorem sc__law_pool : FnScope N__law_pool ["_law_stream_here", "_law_wide"] (defScope s__law_pool) := ⟨rfl, rfl, rfl, by decide +kernel, rfl, by decide +kernel, by decide +kernel⟩
abbrev s__law_leaf : Stmt := topS 11
abbrev N__law_leaf : List Str := ["_law_stream_here", "_law_pool_here", "_law_kind", "_law_c", "_law_sign"]
theorem sc__law_leaf : FnScope N__law_leaf ["_law_stream_here", "_law_pool_here"] (defScope s__law_leaf) := ⟨rfl, rfl, rfl, by decide +kernel, rfl, by decide +kernel, by decide +kernel⟩
abbrev s__law_recipe : Stmt := topS 12
abbrev N__law_recipe : List Str := ["_law_stream_here", "_law_pool_here", "_law_most", "_law_steps", "_law_depth", "_law_nodes", "_law_k", "_law_kind", "_law_many"]
theorem sc__law_recipe : FnScope N__law_recipe ["_law_stream_here", "_law_pool_here", "_law_most"] (defScope s__law_recipe) := ⟨rfl, rfl, rfl, by decide +kernel, rfl, by decide +kernel, by decide +kernel⟩
abbrev s__law_built : Stmt := topS 13
abbrev N__law_built : List Str := ["_law_steps", "_law_stack", "_law_step", "_law_part", "_law_rest"]
theorem sc__law_built : FnScope N__law_built ["_law_steps"] (defScope s__law_built) := ⟨rfl, rfl, rfl, by decide +kernel, rfl, by decide +kernel, by decide +kernel⟩
abbrev s__law_alike : Stmt := topS 14
abbrev N__law_alike : List Str := ["_law_told", "_law_due", "_law_left", "_law_k", "_law_pair", "_law_one", "_law_two", "_law_at"]
theorem sc__law_alike : FnScope N__law_alike ["_law_told", "_law_due"] (defScope s__law_alike) := ⟨rfl, rfl, rfl, by decide +kernel, rfl, by decide +kernel, by decide +kernel⟩
abbrev s__law_compared_with : Stmt := topS 15
abbrev N__law_compared_with : List Str := ["_law_recipes", "_law_c", "_law_found", "_law_steps", "_law_step"]
theorem sc__law_compared_with : FnScope N__law_compared_with ["_law_recipes", "_law_c"] (defScope s__law_compared_with) := ⟨rfl, rfl, rfl, by decide +kernel, rfl, by decide +kernel, by decide +kernel⟩
abbrev s_law : Stmt := topS 16
abbrev N_law : List Str := ["_law_script", "_law_stream_here", "_law_wide", "_law_recipes", "_law_k", "_law_pool_here", "_law_predicates", "_law_kept", "_law_c", "_law_due", "_law_told", "_law_steps"]
theorem sc_law : FnScope N_law ["_law_script"] (defScope s_law) := ⟨rfl, rfl, rfl, by decide +kernel, rfl, by decide +kernel, by decide +kernel⟩
structure Txt (K : PySem.W.Frag) (mg : Str → Option Value) : Type where
  a_parts_of : Addr
  d_parts_of : FuncData
  F_parts_of : Fun K "parts_of" "parts_of" s_parts_of a_parts_of d_parts_of
  b_parts_of : Binds K d_parts_of ["predicate"] []
  g_parts_of : mg "parts_of" = some (.ref a_parts_of)
  a_comparisons_of : Addr
  d_comparisons_of : FuncData
  F_comparisons_of : Fun K "comparisons_of" "comparisons_of" s_comparisons_of a_comparisons_of d_comparisons_of
  b_comparisons_of : Binds K d_comparisons_of ["predicate"] []
  g_comparisons_of : mg "comparisons_of" = some (.ref a_comparisons_of)
  a_numbers_of : Addr
  d_numbers_of : FuncData
  F_numbers_of : Fun K "numbers_of" "numbers_of" s_numbers_of a_numbers_of d_numbers_of
  b_numbers_of : Binds K d_numbers_of ["predicates", "column"] []
  g_numbers_of : mg "numbers_of" = some (.ref a_numbers_of)
  a_stream : Addr
  d_stream : FuncData
  F_stream : Fun K "_law_stream" "_law_stream" s__law_stream a_stream d_stream
  b_stream : Binds K d_stream ["_law_script"] []
  g_stream : mg "_law_stream" = some (.ref a_stream)
  a_draw : Addr
  d_draw : FuncData
  F_draw : Fun K "_law_draw" "_law_draw" s__law_draw a_draw d_draw
  b_draw : Binds K d_draw ["_law_stream_here", "_law_many"] []
  g_draw : mg "_law_draw" = some (.ref a_draw)
  a_number : Addr
  d_number : FuncData
  F_number : Fun K "_law_number" "_law_number" s__law_number a_number d_number
  b_number : Binds K d_number ["_law_stream_here", "_law_most"] []
  g_number : mg "_law_number" = some (.ref a_number)
  a_pool : Addr
  d_pool : FuncData
  F_pool : Fun K "_law_pool" "_law_pool" s__law_pool a_pool d_pool
  b_pool : Binds K d_pool ["_law_stream_here", "_law_wide"] []
  g_pool : mg "_law_pool" = some (.ref a_pool)
  a_leaf : Addr
  d_leaf : FuncData
  F_leaf : Fun K "_law_leaf" "_law_leaf" s__law_leaf a_leaf d_leaf
  b_leaf : Binds K d_leaf ["_law_stream_here", "_law_pool_here"] []
  g_leaf : mg "_law_leaf" = some (.ref a_leaf)
  a_recipe : Addr
  d_recipe : FuncData
  F_recipe : Fun K "_law_recipe" "_law_recipe" s__law_recipe a_recipe d_recipe
  b_recipe : Binds K d_recipe ["_law_stream_here", "_law_pool_here", "_law_most"] []
  g_recipe : mg "_law_recipe" = some (.ref a_recipe)
  a_built : Addr
  d_built : FuncData
  F_built : Fun K "_law_built" "_law_built" s__law_built a_built d_built
  b_built : Binds K d_built ["_law_steps"] []
  g_built : mg "_law_built" = some (.ref a_built)
  a_alike : Addr
  d_alike : FuncData
  F_alike : Fun K "_law_alike" "_law_alike" s__law_alike a_alike d_alike
  b_alike : Binds K d_alike ["_law_told", "_law_due"] []
  g_alike : mg "_law_alike" = some (.ref a_alike)
  a_compared_with : Addr
  d_compared_with : FuncData
  F_compared_with : Fun K "_law_compared_with" "_law_compared_with" s__law_compared_with a_compared_with d_compared_with
  b_compared_with : Binds K d_compared_with ["_law_recipes", "_law_c"] []
  g_compared_with : mg "_law_compared_with" = some (.ref a_compared_with)
  c_SIGNS : Addr
  g_SIGNS : mg "SIGNS" = some (.ref c_SIGNS)
  l_SIGNS : ∀ H : Hp, SqT K H c_SIGNS [.str "<", .str "<=", .str "=", .str "!=", .str ">=", .str ">"]
  z_abs : mg "abs" = none
  z_bool : mg "bool" = none
  z_int : mg "int" = none
  z_isinstance : mg "isinstance" = none
  z_len : mg "len" = none
  z_list : mg "list" = none
  z_range : mg "range" = none
  z_sorted : mg "sorted" = none
  z_str : mg "str" = none
  z_tuple : mg "tuple" = none
/-! ### the law's stream of numbers -/
/-- at S the law's stream: the copy of the script at L, a place, a number, how many draws it still gives -/
structure Strm (S L : Addr) (ns : List Int) (H : Hp) : Prop where
  at_ : ∃ (p : Nat) (n k : Int), H S = some (.lst [.ref L, .int p, .int n, .int k]) ∧ p ≤ ns.length ∧ 0 ≤ n ∧ 0 ≤ k
  lst : H L = some (.lst (ns.map V.int))
  ne : L ≠ S
  len : ns.length ≤ 63
theorem strm_at {S L : Addr} {ns : List Int} {H : Hp} {q n c : Int} (eL : H L = some (.lst (ns.map V.int))) (ne : L ≠ S) (hl : ns.length ≤ 63) (h0 : 0 ≤ q) (h1 : q ≤ ns.length) (hn : 0 ≤ n) (hc : 0 ≤ c) : Strm S L ns (upd H S (.lst [.ref L, .int q, .int n, .int c])) :=
  ⟨⟨q.toNat, n, c, by rw [upd_same, Int.toNat_of_nonneg h0], by omega, hn, hc⟩, by rw [upd_ne ne]; exact eL, ne, hl⟩
theorem Strm.new {S L : Addr} {ns : List Int} {H : Hp} {p : Addr} {o : HO} (s : Strm S L ns H) (h : H p = none) : Strm S L ns (upd H p o) := by
  obtain ⟨⟨a, b, c, e, z⟩, l, n, q⟩ := s
  exact ⟨⟨a, b, c, by rw [upd_ne (ne_of_none e h)]; exact e, z⟩, by rw [upd_ne (ne_of_none l h)]; exact l, n, q⟩
theorem Strm.upd {S L : Addr} {ns : List Int} {H : Hp} {p : Addr} {o : HO} (s : Strm S L ns H) (h1 : p ≠ S) (h2 : p ≠ L) : Strm S L ns (upd H p o) := by
  obtain ⟨⟨a, b, c, e, z⟩, l, n, q⟩ := s
  exact ⟨⟨a, b, c, by rw [upd_ne h1.symm]; exact e, z⟩, by rw [upd_ne h2.symm]; exact l, n, q⟩
theorem Strm.same {S L : Addr} {ns : List Int} {H H' : Hp} (s : Strm S L ns H) (h : Same H H') : Strm S L ns H' := by
  obtain ⟨⟨a, b, c, e, z⟩, l, n, q⟩ := s
  exact ⟨⟨a, b, c, h _ _ e, z⟩, h _ _ l, n, q⟩
theorem Strm.neS {S L : Addr} {ns : List Int} {H : Hp} {p : Addr} (s : Strm S L ns H) (h : H p = none) : p ≠ S := by
  obtain ⟨⟨a, b, c, e, z⟩, l, n, q⟩ := s
  exact (ne_of_none e h).symm
theorem Strm.neL {S L : Addr} {ns : List Int} {H : Hp} {p : Addr} (s : Strm S L ns H) (h : H p = none) : p ≠ L := by
  obtain ⟨⟨a, b, c, e, z⟩, l, n, q⟩ := s
  exact (ne_of_none l h).symm
def spStream (K : PySem.W.Frag) : Sp := fun vs H Q _ => ∃ (a : Addr) (ns : List Int), vs = [.ref a] ∧ SqL K H a (ns.map V.int) ∧ ns.length ≤ 63 ∧ ∀ S L H', H S = none → Same H H' → Strm S L ns H' → Q (.ref S) H'
def spDraw : Sp := fun vs H Q _ => ∃ (S L : Addr) (ns : List Int) (m : Int), vs = [.ref S, .int m] ∧ Strm S L ns H ∧ 0 < m ∧ m.natAbs < 2 ^ 200 ∧ ∀ r H', 0 ≤ r → r < m → Ex S H H' → Strm S L ns H' → Q (.int r) H'
theorem use_draw {S L : Addr} {ns : List Int} {m : Int} {H : Hp} {Q : VK} {E : XK} (s : Strm S L ns H) (h0 : 0 < m) (h1 : m < 10 ^ 40) (k : ∀ r H', 0 ≤ r → r < m → Ex S H H' → Strm S L ns H' → Q (.int r) H') : spDraw [.ref S, .int m] H Q E :=
  ⟨S, L, ns, m, rfl, s, h0, by omega, k⟩
section
variable {P : Program} {w : World} {K : PySem.W.Frag} {mg : Str → Option Value} {base : Heap}
theorem ok_stream (T : Txt K mg) : FnOk P w K mg base CX0 1 T.a_stream T.d_stream ["_law_script"] (spStream K) := by
  refine T.F_stream.ok sc__law_stream (fun vs H Q E h => ?_) (fun cdv A outer s H vs Q E hr h => ⟨_, (pss_one (ps_ret (pe_lst (pa_cons (pe_callTy call_list_of (by rfl) T.z_list (by decide +kernel) (pa_cons (pv 0) pa_nil)) (pa_cons pe_int (pa_cons pe_int (pa_cons pe_int pa_nil))))))), ?_⟩)
  · first | (obtain ⟨rfl, _⟩ := h; rfl) | (obtain ⟨_, rfl, _⟩ := h; rfl) | (obtain ⟨_, _, rfl, _⟩ := h; rfl) | (obtain ⟨_, _, _, rfl, _⟩ := h; rfl) | (obtain ⟨_, _, _, _, rfl, _⟩ := h; rfl) | (obtain ⟨_, _, _, _, _, rfl, _⟩ := h; rfl) | (obtain ⟨_, _, _, _, _, _, rfl, _⟩ := h; rfl) | (obtain ⟨_, _, _, _, _, _, _, rfl, _⟩ := h; rfl) | (obtain ⟨_, _, _, _, _, _, _, _, rfl, _⟩ := h; rfl) | (obtain ⟨_, _, _, _, _, _, _, _, _, rfl, _⟩ := h; rfl) | (obtain ⟨_, _, _, _, _, _, _, _, _, _, rfl, _⟩ := h; rfl) | (obtain ⟨_, _, _, _, _, _, _, _, _, _, _, rfl, _⟩ := h; rfl) | (obtain ⟨_, _, _, _, _, _, _, _, _, _, _, _, rfl, _⟩ := h; rfl) | (obtain ⟨_, _, _, _, _, _, _, _, _, _, _, _, _, rfl, _⟩ := h; rfl) | (obtain ⟨_, _, _, _, _, _, _, _, _, _, _, _, _, _, rfl, _⟩ := h; rfl)
  · obtain ⟨a, ns, rfl, hS, hl, k⟩ := h
    try dsimp only [cxOf, Cx.nox, Cx.wish]
    refine st_of (σ := [some _]) rfl ?_
    walk_at "rd"
    intro L hL
    walk_at "rd"
    intro S hs
    have hs' : H S = none := by
      by_cases e : S = L
      · rw [e, upd_same] at hs
        cases hs
      · rw [upd_ne e] at hs
        exact hs
    refine k S L _ hs' (by walk_at "sm") ⟨⟨0, 0, 0, upd_same, Nat.zero_le _, Int.le_refl _, Int.le_refl _⟩, ?_, ?_, hl⟩
    · have e : L ≠ S := ne_of_none upd_same hs
      rw [upd_ne e]
      exact upd_same
    · exact ne_of_none upd_same hs
theorem ok_draw (T : Txt K mg) : FnOk P w K mg base CX0 1 T.a_draw T.d_draw ["_law_stream_here", "_law_many"] (spDraw) := by
  refine T.F_draw.ok sc__law_draw (fun vs H Q E h => ?_) (fun cdv A outer s H vs Q E hr h => ⟨_, (Evl.pss_cut (ps_if (PW.pt (pw_and (PW.pt (pw_or (pt_cmpR op_eq (pe_ix ix_list (pv 0) pe_int (fun _ _ => rfl)) pe_int (nomark _)) (pw_or1 (pt_cmpR op_eq (pe_ix ix_list (pv 0) pe_int (fun _ _ => rfl)) pe_int (nomark _))))) (pw_and1 (pt_cmpR op_lt (pe_ix ix_list (pv 0) pe_int (fun _ _ => rfl)) (pe_callB call_len_seq (by rfl) T.z_len PySem.boot_len (pa_cons (pe_ix ix_list (pv 0) pe_int (fun _ _ => rfl)) pa_nil)) (nomark _)))))
      (pss_cons (ps_set (i := 2) sc__law_draw.nd rfl (.inl rfl) (pe_ix ix_list (pv 0) pe_int (fun _ _ => rfl)))
      (pss_cons (ps_set (i := 3) sc__law_draw.nd rfl (.inl rfl) (pe_ix ix_list (pe_ix ix_list (pv 0) pe_int (fun _ _ => rfl)) (pv 2) (fun _ _ => rfl)))
      (pss_cons (ps_set (i := 4) sc__law_draw.nd rfl (.inl rfl) (pe_op op_add (pe_op op_mul pe_int (pe_callB call_abs (by rfl) T.z_abs (by decide +kernel) (pa_cons (pv 3) pa_nil))) (pe_callTy call_int1 (by rfl) T.z_int (by decide +kernel) (pa_cons (pe_cmpR op_lt (pv 3) pe_int (nomark _)) pa_nil))))
      (pss_cons (ps_if (pt_cmpR op_lt (pv 4) (pe_op op_mul pe_int (pe_op op_pow pe_int pe_int)) (nomark _))
      (pss_cons (ps_set (i := 4) sc__law_draw.nd rfl (.inl rfl) (pe_op op_mod (pe_callTy call_int1 (by rfl) T.z_int (by decide +kernel) (pa_cons (pe_op op_add (pe_op op_mul (pv 4) pe_int) (pe_op op_mul (pe_op op_add (pe_op op_mul (pv 2) (pv 2)) pe_int) pe_int)) pa_nil)) pe_int))
      (pss_one (ps_set (i := 4) sc__law_draw.nd rfl (.inl rfl) (pe_op op_mod (pe_callTy call_int1 (by rfl) T.z_int (by decide +kernel) (pa_cons (pe_op op_add (pe_op op_add (pe_op op_mul (pe_op op_mul (pv 4) (pv 4)) pe_int) (pe_op op_mul (pv 4) pe_int)) pe_int) pa_nil)) pe_int))))
      pss_nil)
      (pss_cons (ps_asg (pe_op op_add (pv 2) pe_int) (pg_sub (pv 0) pe_int set_list))
      (pss_cons (ps_asg (pv 4) (pg_sub (pv 0) pe_int set_list))
      (pss_one (ps_asg pe_int (pg_sub (pv 0) pe_int set_list)))))))))
      pss_nil)
      (pss_cons (ps_if (pt_cmpR op_eq (pe_ix ix_list (pv 0) pe_int (fun _ _ => rfl)) pe_int (nomark _))
      (pss_one (ps_ret pe_int))
      pss_nil)
      (pss_cons (ps_set (i := 4) sc__law_draw.nd rfl (.inl rfl) (pe_ix ix_list (pv 0) pe_int (fun _ _ => rfl)))
      (pss_cons (ps_asg (pe_op op_fdivW (pv 4) (pv 1)) (pg_sub (pv 0) pe_int set_list))
      (pss_cons (ps_asg (pe_op op_sub (pe_ix ix_list (pv 0) pe_int (fun _ _ => rfl)) pe_int) (pg_sub (pv 0) pe_int set_list))
      (pss_one (ps_ret (pe_op op_mod (pe_callTy call_int1 (by rfl) T.z_int (by decide +kernel) (pa_cons (pv 4) pa_nil)) (pv 1))))))))), ?_⟩)
  · first | (obtain ⟨rfl, _⟩ := h; rfl) | (obtain ⟨_, rfl, _⟩ := h; rfl) | (obtain ⟨_, _, rfl, _⟩ := h; rfl) | (obtain ⟨_, _, _, rfl, _⟩ := h; rfl) | (obtain ⟨_, _, _, _, rfl, _⟩ := h; rfl) | (obtain ⟨_, _, _, _, _, rfl, _⟩ := h; rfl) | (obtain ⟨_, _, _, _, _, _, rfl, _⟩ := h; rfl) | (obtain ⟨_, _, _, _, _, _, _, rfl, _⟩ := h; rfl) | (obtain ⟨_, _, _, _, _, _, _, _, rfl, _⟩ := h; rfl) | (obtain ⟨_, _, _, _, _, _, _, _, _, rfl, _⟩ := h; rfl) | (obtain ⟨_, _, _, _, _, _, _, _, _, _, rfl, _⟩ := h; rfl) | (obtain ⟨_, _, _, _, _, _, _, _, _, _, _, rfl, _⟩ := h; rfl) | (obtain ⟨_, _, _, _, _, _, _, _, _, _, _, _, rfl, _⟩ := h; rfl) | (obtain ⟨_, _, _, _, _, _, _, _, _, _, _, _, _, rfl, _⟩ := h; rfl) | (obtain ⟨_, _, _, _, _, _, _, _, _, _, _, _, _, _, rfl, _⟩ := h; rfl)
  · obtain ⟨S, L, ns, m, rfl, hS, h0, h1, k⟩ := h
    try dsimp only [cxOf, Cx.nox, Cx.wish]
    refine st_of (σ := [some _, some _, none, none, none]) rfl ?_
    obtain ⟨⟨p, n, c, eS, hp, hn, hc⟩, eL, ne, hl⟩ := hS
    have hm : CDivW n m := wide_div h0 h1 (by decide) (by decide)
    refine ⟨fun σ' H' => ∃ x y z, σ' = [some (.ref S), some (.int m), x, y, z] ∧ Ex S H H' ∧ Strm S L ns H', ?_, ?_⟩
    · walk_at "rd"
      have key : ∀ H', Ex S H H' → Strm S L ns H' → (∃ x y z, [some (V.ref S), some (V.int m), none, none, none] = [some (V.ref S), some (V.int m), x, y, z] ∧ Ex S H H' ∧ Strm S L ns H') := fun H' a b => ⟨_, _, _, rfl, a, b⟩
      refine i_d (p := n = 0) (fun hz => ?_) (fun hz => ?_)
      · walk_at "rd"
        refine i_d (fun hl2 => ?_) (fun hl2 => ?_)
        · rw [List.length_map] at hl2
          have hlt : p < ns.length := by omega
          walk_at "rd"
          refine r_ixL (sql eL) (atI_nat (map_at hlt)) ?_
          generalize ns[p] = z
          walk_at "rd"
          refine i_d (fun hb => ?_) (fun hb => ?_)
          · walk_at "rd"
            exact ⟨_, _, _, rfl, Ex.at (Ex.refl _ _), strm_at eL ne hl (by omega) (by omega) (Int.emod_nonneg _ (by decide)) (by decide)⟩
          · walk_at "rd"
            exact ⟨_, _, _, rfl, Ex.at (Ex.refl _ _), strm_at eL ne hl (by omega) (by omega) (by split <;> split <;> omega) (by decide)⟩
        · walk_at "rd"
          exact key H (Ex.refl _ _) ⟨⟨p, n, c, eS, hp, hn, hc⟩, eL, ne, hl⟩
      · walk_at "rd"
        refine i_d (p := c = 0) (fun hz => ?_) (fun hz => ?_)
        · walk_at "rd"
          refine i_d (fun hl2 => ?_) (fun hl2 => ?_)
          · rw [List.length_map] at hl2
            have hlt : p < ns.length := by omega
            walk_at "rd"
            refine r_ixL (sql eL) (atI_nat (map_at hlt)) ?_
            generalize ns[p] = z
            walk_at "rd"
            refine i_d (fun hb => ?_) (fun hb => ?_)
            · walk_at "rd"
              exact ⟨_, _, _, rfl, Ex.at (Ex.refl _ _), strm_at eL ne hl (by omega) (by omega) (Int.emod_nonneg _ (by decide)) (by decide)⟩
            · walk_at "rd"
              exact ⟨_, _, _, rfl, Ex.at (Ex.refl _ _), strm_at eL ne hl (by omega) (by omega) (by split <;> split <;> omega) (by decide)⟩
          · walk_at "rd"
            exact key H (Ex.refl _ _) ⟨⟨p, n, c, eS, hp, hn, hc⟩, eL, ne, hl⟩
        · walk_at "rd"
          exact key H (Ex.refl _ _) ⟨⟨p, n, c, eS, hp, hn, hc⟩, eL, ne, hl⟩
    · rintro σ' H' ⟨x, y, z, rfl, ex, ⟨⟨p, n, c, eS, hp, hn, hc⟩, eL, ne, hl⟩⟩
      have hm : CDivW n m := wide_div h0 h1 (by decide) (by decide)
      walk_at "rd"
      refine i_d (p := c = 0) (fun hz => ?_) (fun hz => ?_)
      · walk_at "rd"
        exact k 0 H' (Int.le_refl _) h0 ex ⟨⟨p, n, c, eS, hp, hn, hc⟩, eL, ne, hl⟩
      · walk_at "rd"
        exact k _ _ (Int.emod_nonneg _ (by omega)) (Int.emod_lt_of_pos _ h0) (Ex.at ex) (strm_at eL ne hl (by omega) (by omega) (Int.ediv_nonneg hn (by omega)) (by omega))
end

/-! ### what is alike -/
mutual
/-- x and y are alike in H; n: how many looks that takes -/
inductive Al (K : PySem.W.Frag) (H : Hp) : V → V → Nat → Prop where
  | non : Al K H .non .non 1
  | bl (b : Bool) : Al K H (.bl b) (.bl b) 1
  | int (i : Int) : Al K H (.int i) (.int i) 1
  | str (s : Str) : Al K H (.str s) (.str s) 1
  | lst {a b : Addr} {xs ys : List V} {n : Nat} (h1 : SqL K H a xs) (h2 : SqL K H b ys) (h : Als K H xs ys n) : Al K H (.ref a) (.ref b) (n + 1)
  | tup {a b : Addr} {xs ys : List V} {n : Nat} (h1 : SqT K H a xs) (h2 : SqT K H b ys) (h : Als K H xs ys n) : Al K H (.ref a) (.ref b) (n + 1)
inductive Als (K : PySem.W.Frag) (H : Hp) : List V → List V → Nat → Prop where
  | nil : Als K H [] [] 0
  | cons {x y : V} {xs ys : List V} {n m : Nat} (h : Al K H x y n) (t : Als K H xs ys m) : Als K H (x :: xs) (y :: ys) (n + m)
end
section
variable {K : PySem.W.Frag} {H H' : Hp}
theorem Al.same {x y : V} {n : Nat} (h : Al K H x y n) (e : Same H H') : Al K H' x y n :=
  h.rec (motive_1 := fun x y n _ => Al K H' x y n) (motive_2 := fun xs ys n _ => Als K H' xs ys n) .non .bl .int .str (fun h1 h2 _ ih => .lst (e.seq h1) (e.seq h2) ih) (fun h1 h2 _ ih => .tup (same_tup e h1) (same_tup e h2) ih) .nil (fun _ _ a b => .cons a b)
theorem Als.same {xs ys : List V} {n : Nat} (h : Als K H xs ys n) (e : Same H H') : Als K H' xs ys n :=
  h.rec (motive_1 := fun x y n _ => Al K H' x y n) (motive_2 := fun xs ys n _ => Als K H' xs ys n) .non .bl .int .str (fun h1 h2 _ ih => .lst (e.seq h1) (e.seq h2) ih) (fun h1 h2 _ ih => .tup (same_tup e h1) (same_tup e h2) ih) .nil (fun _ _ a b => .cons a b)
theorem Als.len {xs ys : List V} {n : Nat} (h : Als K H xs ys n) : xs.length = ys.length :=
  h.rec (motive_1 := fun _ _ _ _ => True) (motive_2 := fun xs ys _ _ => xs.length = ys.length) trivial (fun _ => trivial) (fun _ => trivial) (fun _ => trivial) (fun _ _ _ _ => trivial) (fun _ _ _ _ => trivial) rfl (fun _ _ _ b => congrArg (· + 1) b)
theorem Als.app {xs ys us ws : List V} {n m : Nat} (h : Als K H xs ys n) (g : Als K H us ws m) : Als K H (xs ++ us) (ys ++ ws) (n + m) :=
  h.rec (motive_1 := fun _ _ _ _ => True) (motive_2 := fun xs ys n _ => Als K H (xs ++ us) (ys ++ ws) (n + m)) trivial (fun _ => trivial) (fun _ => trivial) (fun _ => trivial) (fun _ _ _ _ => trivial) (fun _ _ _ _ => trivial)
    (by rw [Nat.zero_add]; exact g) (fun a _ _ b => by rw [Nat.add_assoc]; exact .cons a b)
theorem Als.last {xs ys : List V} {x y : V} : ∀ {n : Nat}, Als K H (xs ++ [x]) (ys ++ [y]) n → xs.length = ys.length → ∃ m k, n = m + k ∧ Als K H xs ys m ∧ Al K H x y k := by
  induction xs generalizing ys with
  | nil =>
    intro n h hl
    cases ys with
    | cons _ _ => cases hl
    | nil =>
      cases h with
      | cons a t =>
        cases t
        exact ⟨0, _, by omega, .nil, a⟩
  | cons u us ih =>
    intro n h hl
    cases ys with
    | nil => cases hl
    | cons w ws =>
      cases h with
      | cons a t =>
        obtain ⟨m, k, e, t', l⟩ := ih t (by simpa using hl)
        exact ⟨_, k, by rw [e, Nat.add_assoc], .cons a t', l⟩
theorem Al.posI {x y : V} {n : Nat} (h : Al K H x y n) : 0 < n := by
  cases h <;> omega
theorem Als.le {xs ys : List V} {n : Nat} (h : Als K H xs ys n) : ys.length ≤ n :=
  h.rec (motive_1 := fun _ _ n _ => 0 < n) (motive_2 := fun _ ys n _ => ys.length ≤ n) (by decide) (fun _ => by decide) (fun _ => by decide) (fun _ => by decide) (fun _ _ _ _ => Nat.succ_pos _) (fun _ _ _ _ => Nat.succ_pos _) (Nat.le_refl _)
    (fun _ _ a b => by rw [List.length_cons]; omega)
theorem Al.pos {x y : V} {n : Nat} (h : Al K H x y n) : 0 < n := by
  cases h <;> omega
theorem Als.get {xs ys : List V} : ∀ {n : Nat} (i : Nat), Als K H xs ys n → i < xs.length → ∃ x y, xs[i]? = some x ∧ ys[i]? = some y := by
  intro n i h hi
  have e := h.len
  exact ⟨xs[i], ys[i]'(by omega), List.getElem?_eq_getElem hi, List.getElem?_eq_getElem (by omega)⟩
theorem Als.ints : ∀ ns : List Int, Als K H (ns.map V.int) (ns.map V.int) ns.length
  | [] => .nil
  | n :: r => by
    rw [List.length_cons, Nat.add_comm]
    exact .cons (.int n) (Als.ints r)
theorem Als.bls : ∀ ns : List Bool, Als K H (ns.map V.bl) (ns.map V.bl) ns.length
  | [] => .nil
  | n :: r => by
    rw [List.length_cons, Nat.add_comm]
    exact .cons (.bl n) (Als.bls r)
/-- the pairs that stand on the stack at l -/
inductive Prs (l : Addr) (H : Hp) : List V → List V → List V → Prop where
  | nil : Prs l H [] [] []
  | cons {p : Addr} {x y : V} {vs xs ys : List V} (h : H p = some (.lst [x, y])) (n : p ≠ l) (t : Prs l H vs xs ys) : Prs l H (.ref p :: vs) (x :: xs) (y :: ys)
theorem Prs.keep {l : Addr} {vs xs ys : List V} (h : Prs l H vs xs ys) (e : ∀ p o, p ≠ l → H p = some o → H' p = some o) : Prs l H' vs xs ys := by
  induction h with
  | nil => exact .nil
  | cons h n _ ih => exact .cons (e _ _ n h) n ih
theorem Prs.len {l : Addr} {vs xs ys : List V} (h : Prs l H vs xs ys) : vs.length = xs.length ∧ xs.length = ys.length := by
  induction h with
  | nil => exact ⟨rfl, rfl⟩
  | cons h n _ ih => exact ⟨congrArg (· + 1) ih.1, congrArg (· + 1) ih.2⟩
theorem Prs.app {l p : Addr} {x y : V} {vs xs ys : List V} (h : Prs l H vs xs ys) (hp : H p = some (.lst [x, y])) (n : p ≠ l) : Prs l H (vs ++ [.ref p]) (xs ++ [x]) (ys ++ [y]) := by
  induction h with
  | nil => exact .cons hp n .nil
  | cons h m _ ih => exact .cons h m ih
theorem Prs.last {l : Addr} {v x y : V} : ∀ {vs xs ys : List V}, Prs l H (vs ++ [v]) (xs ++ [x]) (ys ++ [y]) → vs.length = xs.length → xs.length = ys.length → ∃ p, v = .ref p ∧ H p = some (.lst [x, y]) ∧ p ≠ l ∧ Prs l H vs xs ys := by
  intro vs
  induction vs with
  | nil =>
    intro xs ys h h1 h2
    cases xs with
    | cons _ _ => cases h1
    | nil =>
      cases ys with
      | cons _ _ => cases h2
      | nil =>
        cases h with
        | cons h n t => exact ⟨_, rfl, h, n, .nil⟩
  | cons w ws ih =>
    intro xs ys h h1 h2
    cases xs with
    | nil => cases h1
    | cons u us =>
      cases ys with
      | nil => cases h2
      | cons z zs =>
        cases h with
        | cons h n t =>
          obtain ⟨p, e, hp, n', t'⟩ := ih t (by simpa using h1) (by simpa using h2)
          exact ⟨p, e, hp, n', .cons h n t'⟩
theorem snoc {l : List V} (h : l.length ≠ 0) : ∃ r v, l = r ++ [v] := by
  rcases List.eq_nil_or_concat l with e | ⟨r, v, e⟩
  · subst e
    exact absurd rfl h
  · exact ⟨r, v, by simpa using e⟩
/-! isinstance -/
theorem ty_lst {a : Addr} {xs : List V} (h : SqL K H a xs) : TyX K H (.ref a) (.type "list") := by
  rcases h with (h | ⟨o, h⟩) | ⟨o, _, _, h, c, _⟩
  · exact .base (.lst h)
  · exact .base (.frz h)
  · exact .kList h c
theorem ty_tup {a : Addr} {xs : List V} (h : SqT K H a xs) : TyX K H (.ref a) (.type "tuple") := by
  rcases h with (h | ⟨o, h⟩) | ⟨o, _, _, h, c, _⟩
  · exact .base (.tup h)
  · exact .fTuple h
  · exact .kTuple h c
theorem kit2 {t : String} {b : Bool} (h1 : kitB t "list" = some b) (h2 : b = true ∨ kitB t "tuple" = some false) : PySem.W.kitAny K (.type t) [.type "list", .type "tuple"] = some b := by
  refine kitAny_cons (kit_ty h1) (fun e => ?_) (fun e => e)
  subst e
  rcases h2 with h | h
  · cases h
  · exact kitAny_cons (kit_ty h) (fun _ => rfl) (fun e => e)
theorem kit2t {t : String} (h1 : kitB t "list" = some false) (h2 : kitB t "tuple" = some true) : PySem.W.kitAny K (.type t) [.type "list", .type "tuple"] = some true :=
  kitAny_cons (kit_ty h1) (fun _ => kitAny_cons (kit_ty h2) (fun e => nomatch e) (fun e => e)) (fun e => nomatch e)
theorem r_isi2 {x : V} {tp : Addr} {t : Value} {b : Bool} {Q : VK} (hT : H tp = some (.tup [.ty "list", .ty "tuple"])) (ty : TyX K H x t) (e : PySem.W.kitAny K t [.type "list", .type "tuple"] = some b) (q : Q (.bl b) H) : rIsiT K [x, .ref tp] H Q :=
  ⟨x, tp, _, t, _, b, rfl, hT, .cons (.ty _) (.cons (.ty _) .nil), ty, e, q⟩
theorem r_isi {x : V} {t c : String} {b : Bool} {Q : VK} (ty : TyX K H x (.type t)) (e : kitB t c = some b) (q : Q (.bl b) H) : rIsi K [x, .ty c] H Q :=
  ⟨x, _, _, _, b, rfl, .ty _, ty, kit_ty e, q⟩
theorem two_lst {x : V} {tp a : Addr} {xs : List V} {Q : VK} (hT : H tp = some (.tup [.ty "list", .ty "tuple"])) (h : SqL K H a xs) (q : Q (.bl true) H) : rIsiT K [.ref a, .ref tp] H Q := r_isi2 hT (ty_lst h) (kit2 (by decide +kernel) (.inl rfl)) q
theorem two_tup {x : V} {tp a : Addr} {xs : List V} {Q : VK} (hT : H tp = some (.tup [.ty "list", .ty "tuple"])) (h : SqT K H a xs) (q : Q (.bl true) H) : rIsiT K [.ref a, .ref tp] H Q := r_isi2 hT (ty_tup h) (kit2t (by decide +kernel) (by decide +kernel)) q
theorem two_non {tp : Addr} {Q : VK} (hT : H tp = some (.tup [.ty "list", .ty "tuple"])) (q : Q (.bl false) H) : rIsiT K [.non, .ref tp] H Q := r_isi2 hT (.base .non) (kit2 (by decide +kernel) (.inr (by decide +kernel))) q
theorem two_bl {tp : Addr} {b : Bool} {Q : VK} (hT : H tp = some (.tup [.ty "list", .ty "tuple"])) (q : Q (.bl false) H) : rIsiT K [.bl b, .ref tp] H Q := r_isi2 hT (.base (.bl b)) (kit2 (by decide +kernel) (.inr (by decide +kernel))) q
theorem two_int {tp : Addr} {b : Int} {Q : VK} (hT : H tp = some (.tup [.ty "list", .ty "tuple"])) (q : Q (.bl false) H) : rIsiT K [.int b, .ref tp] H Q := r_isi2 hT (.base (.int b)) (kit2 (by decide +kernel) (.inr (by decide +kernel))) q
theorem two_str {tp : Addr} {b : Str} {Q : VK} (hT : H tp = some (.tup [.ty "list", .ty "tuple"])) (q : Q (.bl false) H) : rIsiT K [.str b, .ref tp] H Q := r_isi2 hT (.base (.str b)) (kit2 (by decide +kernel) (.inr (by decide +kernel))) q
end
def spAlike (K : PySem.W.Frag) : Sp := fun vs H Q _ => ∃ (x y : V) (n : Nat), vs = [x, y] ∧ Al K H x y n ∧ n < 6000 ∧ ∀ H', Same H H' → Q (.bl true) H'
theorem use_alike {K : PySem.W.Frag} {x y : V} {n : Nat} {H : Hp} {Q : VK} {E : XK} (h : Al K H x y n) (hn : n < 6000) (k : ∀ H', Same H H' → Q (.bl true) H') : spAlike K [x, y] H Q E := ⟨x, y, n, rfl, h, hn, k⟩
section
variable {P : Program} {w : World} {K : PySem.W.Frag} {mg : Str → Option Value} {base : Heap}
local macro_rules | `(tactic| walk_at "isi") => `(tactic| first
  | ((with_reducible show rIsiT _ [V.non, _] _ _); refine two_non (by walk_at "hp") ?_)
  | ((with_reducible show rIsiT _ [V.bl _, _] _ _); refine two_bl (by walk_at "hp") ?_)
  | ((with_reducible show rIsiT _ [V.int _, _] _ _); refine two_int (by walk_at "hp") ?_)
  | ((with_reducible show rIsiT _ [V.str _, _] _ _); refine two_str (by walk_at "hp") ?_)
  | ((with_reducible show rIsiT _ [V.ref _, _] _ _); first | refine two_lst (x := .non) (by walk_at "hp") (by walk_at "sa") ?_ | refine two_tup (x := .non) (by walk_at "hp") (by walk_at "sa") ?_)
  | ((with_reducible show rIsi _ [V.non, _] _ _); first | refine r_isi (b := true) (.base .non) (by decide +kernel) ?_ | refine r_isi (b := false) (.base .non) (by decide +kernel) ?_)
  | ((with_reducible show rIsi _ [V.bl _, _] _ _); first | refine r_isi (b := true) (.base (.bl _)) (by decide +kernel) ?_ | refine r_isi (b := false) (.base (.bl _)) (by decide +kernel) ?_)
  | ((with_reducible show rIsi _ [V.int _, _] _ _); first | refine r_isi (b := true) (.base (.int _)) (by decide +kernel) ?_ | refine r_isi (b := false) (.base (.int _)) (by decide +kernel) ?_)
  | ((with_reducible show rIsi _ [V.str _, _] _ _); first | refine r_isi (b := true) (.base (.str _)) (by decide +kernel) ?_ | refine r_isi (b := false) (.base (.str _)) (by decide +kernel) ?_)
  | ((with_reducible show rIsi _ [V.ref _, _] _ _); first | first | refine r_isi (b := true) (ty_lst (by walk_at "sa")) (by decide +kernel) ?_ | refine r_isi (b := false) (ty_lst (by walk_at "sa")) (by decide +kernel) ?_ | first | refine r_isi (b := true) (ty_tup (by walk_at "sa")) (by decide +kernel) ?_ | refine r_isi (b := false) (ty_tup (by walk_at "sa")) (by decide +kernel) ?_))
local macro_rules | `(tactic| walk_at "go") => `(tactic| repeat (first | walk_at "rd1" | walk_at "tf" | walk_at "isi" | ((with_reducible show ∀ _ : Addr, _ = none → _); intro _ _)))
theorem ok_alike (T : Txt K mg) : FnOk P w K mg base CX0 1 T.a_alike T.d_alike ["_law_told", "_law_due"] (spAlike K) := by
  refine T.F_alike.ok sc__law_alike (fun vs H Q E h => ?_) (fun cdv A outer s H vs Q E hr h => ⟨_, (pss_cons (ps_set (i := 2) sc__law_alike.nd rfl (.inl rfl) (pe_lst (pa_cons (pe_lst (pa_cons (pv 0) (pa_cons (pv 1) pa_nil))) pa_nil)))
      (pss_cons (ps_for PassesOwn.never rfl (pi_range1 (by rfl) T.z_range (pa_cons pe_int pa_nil)) (pg_name (i := 3) sc__law_alike.nd rfl (.inl rfl))
      (pss_cons (ps_if (pt_cmpR op_eq (pe_callB call_len_seq (by rfl) T.z_len PySem.boot_len (pa_cons (pv 2) pa_nil)) pe_int (nomark _))
      (pss_one (ps_ret pe_bl))
      pss_nil)
      (pss_cons (ps_set (i := 4) sc__law_alike.nd rfl (.inl rfl) (pe_bm0 PySem.F.plainAttrs_list PySem.F.slot_list_pop PySem.F.type_list_pop mt_pop (pv 2)))
      (pss_cons (ps_set (i := 5) sc__law_alike.nd rfl (.inl rfl) (pe_ix ix_list (pv 4) pe_int (fun _ _ => rfl)))
      (pss_cons (ps_set (i := 6) sc__law_alike.nd rfl (.inl rfl) (pe_ix ix_list (pv 4) pe_int (fun _ _ => rfl)))
      (pss_one (ps_if (pt_val (pe_callB call_isiT (by rfl) T.z_isinstance (by decide +kernel) (pa_cons (pv 6) (pa_cons (pe_tup (pa_cons (pe_bltn (v := .ty "list") (by rfl) T.z_list (by decide +kernel) rfl) (pa_cons (pe_bltn (v := .ty "tuple") (by rfl) T.z_tuple (by decide +kernel) rfl) pa_nil))) pa_nil))))
      (pss_cons (ps_if (PW.pt (pw_or (pt_not (pt_val (pe_callB call_isiT (by rfl) T.z_isinstance (by decide +kernel) (pa_cons (pv 5) (pa_cons (pe_tup (pa_cons (pe_bltn (v := .ty "list") (by rfl) T.z_list (by decide +kernel) rfl) (pa_cons (pe_bltn (v := .ty "tuple") (by rfl) T.z_tuple (by decide +kernel) rfl) pa_nil))) pa_nil))))) (pw_or1 (pt_cmpR op_ne (pe_callB call_isi (by rfl) T.z_isinstance (by decide +kernel) (pa_cons (pv 5) (pa_cons (pe_bltn (v := .ty "list") (by rfl) T.z_list (by decide +kernel) rfl) pa_nil))) (pe_callB call_isi (by rfl) T.z_isinstance (by decide +kernel) (pa_cons (pv 6) (pa_cons (pe_bltn (v := .ty "list") (by rfl) T.z_list (by decide +kernel) rfl) pa_nil))) (nomark _)))))
      (pss_one (ps_ret pe_bl))
      pss_nil)
      (pss_cons (ps_if (pt_cmpR op_ne (pe_callB call_len_seq (by rfl) T.z_len PySem.boot_len (pa_cons (pv 5) pa_nil)) (pe_callB call_len_seq (by rfl) T.z_len PySem.boot_len (pa_cons (pv 6) pa_nil)) (nomark _))
      (pss_one (ps_ret pe_bl))
      pss_nil)
      (pss_one (ps_for PassesOwn.never rfl (pi_range1 (by rfl) T.z_range (pa_cons (pe_callB call_len_seq (by rfl) T.z_len PySem.boot_len (pa_cons (pv 6) pa_nil)) pa_nil)) (pg_name (i := 7) sc__law_alike.nd rfl (.inl rfl))
      (pss_one (ps_expr (pe_bm PySem.F.plainAttrs_list PySem.F.slot_list_append PySem.F.type_list_append mt_append (pv 2) (pa_cons (pe_lst (pa_cons (pe_ix ix_seq (pv 5) (pv 7) (fun _ _ => rfl)) (pa_cons (pe_ix ix_seq (pv 6) (pv 7) (fun _ _ => rfl)) pa_nil))) pa_nil))))))))
      (pss_one (ps_if (pt_cmpR op_isN (pv 6) pe_non (nomark _))
      (pss_one (ps_if (pt_cmpR op_notN (pv 5) pe_non (nomark _))
      (pss_one (ps_ret pe_bl))
      pss_nil))
      (pss_one (ps_if (pt_val (pe_callB call_isi (by rfl) T.z_isinstance (by decide +kernel) (pa_cons (pv 6) (pa_cons (pe_bltn (v := .ty "bool") (by rfl) T.z_bool (by decide +kernel) rfl) pa_nil))))
      (pss_one (ps_if (PW.pt (pw_or (pt_not (pt_val (pe_callB call_isi (by rfl) T.z_isinstance (by decide +kernel) (pa_cons (pv 5) (pa_cons (pe_bltn (v := .ty "bool") (by rfl) T.z_bool (by decide +kernel) rfl) pa_nil))))) (pw_or1 (pt_cmpR op_ne (pv 5) (pv 6) (nomark _)))))
      (pss_one (ps_ret pe_bl))
      pss_nil))
      (pss_one (ps_if (pt_val (pe_callB call_isi (by rfl) T.z_isinstance (by decide +kernel) (pa_cons (pv 6) (pa_cons (pe_bltn (v := .ty "int") (by rfl) T.z_int (by decide +kernel) rfl) pa_nil))))
      (pss_one (ps_if (PW.pt (pw_or (pt_not (pt_val (pe_callB call_isi (by rfl) T.z_isinstance (by decide +kernel) (pa_cons (pv 5) (pa_cons (pe_bltn (v := .ty "int") (by rfl) T.z_int (by decide +kernel) rfl) pa_nil))))) (pw_or (pt_val (pe_callB call_isi (by rfl) T.z_isinstance (by decide +kernel) (pa_cons (pv 5) (pa_cons (pe_bltn (v := .ty "bool") (by rfl) T.z_bool (by decide +kernel) rfl) pa_nil)))) (pw_or1 (pt_cmpR op_ne (pv 5) (pv 6) (nomark _))))))
      (pss_one (ps_ret pe_bl))
      pss_nil))
      (pss_one (ps_if (PW.pt (pw_or (pt_not (pt_val (pe_callB call_isi (by rfl) T.z_isinstance (by decide +kernel) (pa_cons (pv 5) (pa_cons (pe_bltn (v := .ty "str") (by rfl) T.z_str (by decide +kernel) rfl) pa_nil))))) (pw_or1 (pt_cmpR op_ne (pv 5) (pv 6) (nomark _)))))
      (pss_one (ps_ret pe_bl))
      pss_nil)))))))))))))))
      (pss_one (ps_ret pe_bl)))), ?_⟩)
  · first | (obtain ⟨rfl, _⟩ := h; rfl) | (obtain ⟨_, rfl, _⟩ := h; rfl) | (obtain ⟨_, _, rfl, _⟩ := h; rfl) | (obtain ⟨_, _, _, rfl, _⟩ := h; rfl) | (obtain ⟨_, _, _, _, rfl, _⟩ := h; rfl) | (obtain ⟨_, _, _, _, _, rfl, _⟩ := h; rfl) | (obtain ⟨_, _, _, _, _, _, rfl, _⟩ := h; rfl) | (obtain ⟨_, _, _, _, _, _, _, rfl, _⟩ := h; rfl) | (obtain ⟨_, _, _, _, _, _, _, _, rfl, _⟩ := h; rfl) | (obtain ⟨_, _, _, _, _, _, _, _, _, rfl, _⟩ := h; rfl) | (obtain ⟨_, _, _, _, _, _, _, _, _, _, rfl, _⟩ := h; rfl) | (obtain ⟨_, _, _, _, _, _, _, _, _, _, _, rfl, _⟩ := h; rfl) | (obtain ⟨_, _, _, _, _, _, _, _, _, _, _, _, rfl, _⟩ := h; rfl) | (obtain ⟨_, _, _, _, _, _, _, _, _, _, _, _, _, rfl, _⟩ := h; rfl) | (obtain ⟨_, _, _, _, _, _, _, _, _, _, _, _, _, _, rfl, _⟩ := h; rfl)
  · obtain ⟨x, y, N, rfl, hA, hN, k⟩ := h
    try dsimp only [cxOf, Cx.nox, Cx.wish]
    refine st_of (σ := [some _, some _, none, none, none, none, none, none]) rfl ?_
    walk_at "rd"
    intro p hp
    walk_at "rd"
    intro l hl
    have npl : p ≠ l := ne_of_none upd_same hl
    have hl0 : H l = none := by
      rw [upd_ne npl.symm] at hl
      exact hl
    walk_at "rd"
    refine c_rng1 ?_
    walk_at "rd"
    refine ⟨by decide, by decide, for_range (lo := 0) (n := 6000) (fun i σ' H' => ∃ vs xs ys n a b c d e, σ' = [some x, some y, some (.ref l), a, b, c, d, e] ∧ H' l = some (.lst vs) ∧ Prs l H' vs xs ys ∧ Als K H xs ys n ∧ n + i ≤ 5999 ∧ Same H H') ?_ ?_ ?_⟩
    · refine ⟨_, [x], [y], N, none, none, none, none, none, rfl, upd_same, .cons ((upd_ne npl).trans upd_same) npl .nil, ?_, by omega, by walk_at "sm"⟩
      exact .cons hA .nil
    · rintro i σ' H' hi ⟨vs, xs, ys, n, a, b, c, d, e, rfl, el, pr, al, hn, sm⟩
      obtain ⟨hv1, hv2⟩ := pr.len
      walk_at "rd"
      refine i_d (fun hz => ?_) (fun hz => ?_)
      · walk_at "rd"
        exact k H' sm
      · have hz' : vs.length ≠ 0 := by omega
        obtain ⟨vs, v, rfl⟩ := snoc hz'
        obtain ⟨xs, x1, rfl⟩ := snoc (l := xs) (by omega)
        obtain ⟨ys, y1, rfl⟩ := snoc (l := ys) (by omega)
        rw [List.length_append, List.length_append] at hv1
        rw [List.length_append, List.length_append] at hv2
        obtain ⟨p1, rfl, hp1, n1, pr⟩ := pr.last (by simpa using hv1) (by simpa using hv2)
        obtain ⟨m, q, rfl, als, al⟩ := al.last (by simpa using hv2)
        have pr' : Prs l (upd H' l (.lst vs)) vs xs ys := pr.keep fun p o n h => (upd_ne n).trans h
        have sm' : Same H (upd H' l (.lst vs)) := same_mut sm hl0
        have hp1' : (upd H' l (.lst vs)) p1 = some (.lst [x1, y1]) := (upd_ne n1).trans hp1
        have el' : (upd H' l (.lst vs)) l = some (.lst vs) := upd_same
        walk_at "rd"
        intro tp htp
        walk_at "rd"
        have hq := al.pos
        have hvs : vs.length ≤ 5999 := by
          have := als.le
          simp at hv1 hv2
          omega
        have fin : ∀ H2 n2 (q : Same (upd H' l (.lst vs)) H2), H2 l = some (.lst vs) → ∃ n3, n3 + (i + 1) ≤ 5999 ∧ Prs l H2 vs xs ys ∧ Als K H xs ys n3 ∧ Same H H2 := fun H2 n2 q z => ⟨m, by omega, pr'.keep fun p o _ h => q p o h, als, Same.trans sm' q⟩
        have fin : ∀ H2 (q : Same (upd H' l (.lst vs)) H2), ∃ n3, n3 + (i + 1) ≤ 5999 ∧ Prs l H2 vs xs ys ∧ Als K H xs ys n3 ∧ Same H H2 := fun H2 q => ⟨m, by omega, pr'.keep fun p o _ h => q p o h, als, Same.trans sm' q⟩
        cases al
        · walk_at "go"
          obtain ⟨n3, a1, a2, a3, a4⟩ := fin _ (same_new (Same.refl _) htp)
          exact ⟨vs, xs, ys, n3, _, _, _, _, _, rfl, by walk_at "hp", a2, a3, a1, a4⟩
        · walk_at "go"
          obtain ⟨n3, a1, a2, a3, a4⟩ := fin _ (same_new (Same.refl _) htp)
          exact ⟨vs, xs, ys, n3, _, _, _, _, _, rfl, by walk_at "hp", a2, a3, a1, a4⟩
        · walk_at "go"
          obtain ⟨n3, a1, a2, a3, a4⟩ := fin _ (same_new (Same.refl _) htp)
          exact ⟨vs, xs, ys, n3, _, _, _, _, _, rfl, by walk_at "hp", a2, a3, a1, a4⟩
        · walk_at "go"
          obtain ⟨n3, a1, a2, a3, a4⟩ := fin _ (same_new (Same.refl _) htp)
          exact ⟨vs, xs, ys, n3, _, _, _, _, _, rfl, by walk_at "hp", a2, a3, a1, a4⟩
        case lst a1 b1 xs1 ys1 n1 h1 h2 hs =>
          have hlen : xs1.length = ys1.length := hs.len
          walk_at "isi"
          walk_at "rd"
          intro tq htq
          walk_at "rd"
          walk_at "isi"
          walk_at "rd"
          walk_at "tf"
          walk_at "rd"
          walk_at "isi"
          walk_at "rd"
          walk_at "isi"
          walk_at "rd"
          walk_at "tf"
          walk_at "rd"
          refine i_n (fun hne => absurd (by omega) hne) (fun _ => ?_)
          walk_at "rd"
          with_reducible refine c_rng1 ?_
          walk_at "rd"
          have smq : Same H (upd (upd (upd H' l (.lst vs)) tp (.tup [.ty "list", .ty "tuple"])) tq (.tup [.ty "list", .ty "tuple"])) := by walk_at "sm"
          have prq : Prs l (upd (upd (upd H' l (.lst vs)) tp (.tup [.ty "list", .ty "tuple"])) tq (.tup [.ty "list", .ty "tuple"])) vs xs ys := pr'.keep fun p o _ h => (same_new (same_new (Same.refl _) htp) htq) p o h
          have elq : (upd (upd (upd H' l (.lst vs)) tp (.tup [.ty "list", .ty "tuple"])) tq (.tup [.ty "list", .ty "tuple"])) l = some (.lst vs) := by walk_at "hp"
          generalize (upd (upd (upd H' l (.lst vs)) tp (.tup [.ty "list", .ty "tuple"])) tq (.tup [.ty "list", .ty "tuple"])) = G at smq prq elq
          have hbnd : ys1.length ≤ 5999 := by
            have := hs.le
            omega
          refine ⟨by omega, by omega, for_range (lo := 0) (n := ys1.length) (fun j σ3 H3 => ∃ us e1, σ3 = [some x, some y, some (.ref l), some (.int (0 + (i : Int))), some (.ref p1), some (.ref a1), some (.ref b1), e1] ∧ H3 l = some (.lst us) ∧ us.length ≤ 5999 + j ∧ Prs l H3 us (xs ++ xs1.take j) (ys ++ ys1.take j) ∧ Same H H3) ?_ ?_ ?_⟩
          · refine ⟨vs, _, rfl, elq, by omega, ?_, smq⟩
            rw [List.take_zero, List.take_zero, List.append_nil, List.append_nil]
            exact prq
          · rintro j σ3 H3 hj ⟨us, e1, rfl, el3, hus, pr3, sm3⟩
            have hx : xs1[j]? = some (xs1[j]'(by omega)) := List.getElem?_eq_getElem _
            have hy : ys1[j]? = some (ys1[j]'(by omega)) := List.getElem?_eq_getElem _
            rw [Int.zero_add]
            walk_at "rd"
            refine .inl (r_ixL (by walk_at "sa") (atI_nat hx) ?_)
            walk_at "rd"
            refine .inl (r_ixL (by walk_at "sa") (atI_nat hy) ?_)
            walk_at "rd"
            intro q hq
            have hql : q ≠ l := (ne_of_none el3 hq).symm
            walk_at "rd"
            refine ⟨us ++ [.ref q], _, rfl, upd_same, by simp; omega, ?_, same_mut (same_new sm3 hq) hl0⟩
            rw [List.take_add_one, List.take_add_one, hx, hy]
            have pr4 : Prs l (upd (upd H3 q (.lst [xs1[j]'(by omega), ys1[j]'(by omega)])) l (.lst (us ++ [.ref q]))) us (xs ++ xs1.take j) (ys ++ ys1.take j) := pr3.keep fun p o n h => (upd_ne n).trans ((upd_ne (ne_of_none h hq)).trans h)
            have := pr4.app (p := q) ((upd_ne hql).trans upd_same) hql
            simpa [List.append_assoc] using this
          · rintro σ3 H3 ⟨us, e1, rfl, el3, hus, pr3, sm3⟩
            rw [List.take_of_length_le (by omega), List.take_of_length_le (by omega)] at pr3
            exact ⟨us, xs ++ xs1, ys ++ ys1, m + n1, _, _, _, _, _, rfl, el3, pr3, als.app hs, by omega, sm3⟩
        case tup a1 b1 xs1 ys1 n1 h1 h2 hs =>
          have hlen : xs1.length = ys1.length := hs.len
          walk_at "isi"
          walk_at "rd"
          intro tq htq
          walk_at "rd"
          walk_at "isi"
          walk_at "rd"
          walk_at "tf"
          walk_at "rd"
          walk_at "isi"
          walk_at "rd"
          walk_at "isi"
          walk_at "rd"
          walk_at "tf"
          walk_at "rd"
          refine i_n (fun hne => absurd (by omega) hne) (fun _ => ?_)
          walk_at "rd"
          with_reducible refine c_rng1 ?_
          walk_at "rd"
          have smq : Same H (upd (upd (upd H' l (.lst vs)) tp (.tup [.ty "list", .ty "tuple"])) tq (.tup [.ty "list", .ty "tuple"])) := by walk_at "sm"
          have prq : Prs l (upd (upd (upd H' l (.lst vs)) tp (.tup [.ty "list", .ty "tuple"])) tq (.tup [.ty "list", .ty "tuple"])) vs xs ys := pr'.keep fun p o _ h => (same_new (same_new (Same.refl _) htp) htq) p o h
          have elq : (upd (upd (upd H' l (.lst vs)) tp (.tup [.ty "list", .ty "tuple"])) tq (.tup [.ty "list", .ty "tuple"])) l = some (.lst vs) := by walk_at "hp"
          generalize (upd (upd (upd H' l (.lst vs)) tp (.tup [.ty "list", .ty "tuple"])) tq (.tup [.ty "list", .ty "tuple"])) = G at smq prq elq
          have hbnd : ys1.length ≤ 5999 := by
            have := hs.le
            omega
          refine ⟨by omega, by omega, for_range (lo := 0) (n := ys1.length) (fun j σ3 H3 => ∃ us e1, σ3 = [some x, some y, some (.ref l), some (.int (0 + (i : Int))), some (.ref p1), some (.ref a1), some (.ref b1), e1] ∧ H3 l = some (.lst us) ∧ us.length ≤ 5999 + j ∧ Prs l H3 us (xs ++ xs1.take j) (ys ++ ys1.take j) ∧ Same H H3) ?_ ?_ ?_⟩
          · refine ⟨vs, _, rfl, elq, by omega, ?_, smq⟩
            rw [List.take_zero, List.take_zero, List.append_nil, List.append_nil]
            exact prq
          · rintro j σ3 H3 hj ⟨us, e1, rfl, el3, hus, pr3, sm3⟩
            have hx : xs1[j]? = some (xs1[j]'(by omega)) := List.getElem?_eq_getElem _
            have hy : ys1[j]? = some (ys1[j]'(by omega)) := List.getElem?_eq_getElem _
            rw [Int.zero_add]
            walk_at "rd"
            refine .inr (.inl (r_ixT (by walk_at "sa") (atI_nat hx) ?_))
            walk_at "rd"
            refine .inr (.inl (r_ixT (by walk_at "sa") (atI_nat hy) ?_))
            walk_at "rd"
            intro q hq
            have hql : q ≠ l := (ne_of_none el3 hq).symm
            walk_at "rd"
            refine ⟨us ++ [.ref q], _, rfl, upd_same, by simp; omega, ?_, same_mut (same_new sm3 hq) hl0⟩
            rw [List.take_add_one, List.take_add_one, hx, hy]
            have pr4 : Prs l (upd (upd H3 q (.lst [xs1[j]'(by omega), ys1[j]'(by omega)])) l (.lst (us ++ [.ref q]))) us (xs ++ xs1.take j) (ys ++ ys1.take j) := pr3.keep fun p o n h => (upd_ne n).trans ((upd_ne (ne_of_none h hq)).trans h)
            have := pr4.app (p := q) ((upd_ne hql).trans upd_same) hql
            simpa [List.append_assoc] using this
          · rintro σ3 H3 ⟨us, e1, rfl, el3, hus, pr3, sm3⟩
            rw [List.take_of_length_le (by omega), List.take_of_length_le (by omega)] at pr3
            exact ⟨us, xs ++ xs1, ys ++ ys1, m + n1, _, _, _, _, _, rfl, el3, pr3, als.app hs, by omega, sm3⟩
    · rintro σ' H' ⟨vs, xs, ys, n, a, b, c, d, e, rfl, el, pr, al, hn, sm⟩
      omega
end

/-! ### numbers, pools, rows -/
def spNumber : Sp := fun vs H Q _ => ∃ (S L : Addr) (ns : List Int) (m : Int), vs = [.ref S, .int m] ∧ Strm S L ns H ∧ 6 ≤ m ∧ m < 10 ^ 30 ∧ ∀ r H', -m ≤ r → r ≤ m → Ex S H H' → Strm S L ns H' → Q (.int r) H'
theorem use_number {S L : Addr} {ns : List Int} {m : Int} {H : Hp} {Q : VK} {E : XK} (s : Strm S L ns H) (h0 : 6 ≤ m) (h1 : m < 10 ^ 30) (k : ∀ r H', -m ≤ r → r ≤ m → Ex S H H' → Strm S L ns H' → Q (.int r) H') : spNumber [.ref S, .int m] H Q E :=
  ⟨S, L, ns, m, rfl, s, h0, h1, k⟩
/-- a list of numbers at q -/
structure Nums (S : Addr) (H : Hp) (q : Addr) (ns : List Int) : Prop where
  at_ : H q = some (.lst (ns.map V.int))
  ne : q ≠ S
  len : ns.length ≤ 8
  bd : ∀ z ∈ ns, -(10 ^ 18) < z ∧ z < 10 ^ 18
theorem Nums.ex {S q : Addr} {H H' : Hp} {ns : List Int} (n : Nums S H q ns) (e : Ex S H H') : Nums S H' q ns := ⟨e _ _ n.ne n.at_, n.ne, n.len, n.bd⟩
/-- a pool: at p a list of n lists of numbers -/
structure Pool (S : Addr) (H : Hp) (p : Addr) (qs : List Addr) : Prop where
  at_ : H p = some (.lst (qs.map V.ref))
  ne : p ≠ S
  each : ∀ q ∈ qs, ∃ ns, Nums S H q ns ∧ 0 < ns.length
theorem Pool.ex {S p : Addr} {H H' : Hp} {qs : List Addr} (n : Pool S H p qs) (e : Ex S H H') : Pool S H' p qs :=
  ⟨e _ _ n.ne n.at_, n.ne, fun q hq => let ⟨ns, a, b⟩ := n.each q hq; ⟨ns, a.ex e, b⟩⟩
def spPool : Sp := fun vs H Q _ => ∃ (S L : Addr) (ns : List Int) (w : Nat), vs = [.ref S, .int (w : Int)] ∧ Strm S L ns H ∧ 1 ≤ w ∧ w ≤ 3 ∧ ∀ p qs H', H p = none → Ex S H H' → Strm S L ns H' → Pool S H' p qs → qs.length = w → Q (.ref p) H'
theorem Nums.app {S q : Addr} {H : Hp} {ns : List Int} {z : Int} (n : Nums S H q ns) (h : ns.length < 8) (h0 : -(10 ^ 18) < z) (h1 : z < 10 ^ 18) : Nums S (upd H q (.lst (ns.map V.int ++ [.int z]))) q (ns ++ [z]) :=
  ⟨by rw [upd_same, List.map_append]; rfl, n.ne, by rw [List.length_append]; exact h, fun y hy => by
    rcases List.mem_append.mp hy with hy | hy
    · exact n.bd y hy
    · rw [List.mem_singleton] at hy
      subst hy
      exact ⟨h0, h1⟩⟩
theorem Nums.get {S q : Addr} {H : Hp} {ns : List Int} (n : Nums S H q ns) {i : Nat} (h : i < ns.length) : -(10 ^ 18) < ns[i] ∧ ns[i] < 10 ^ 18 := n.bd _ (List.getElem_mem h)
theorem Pool.app {S p q : Addr} {H : Hp} {qs : List Addr} {ns : List Int} (n : Pool S H p qs) (hq : Nums S H q ns) (h0 : 0 < ns.length) (hpq : q ≠ p) (hqs : ∀ x ∈ qs, x ≠ p) : Pool S (upd H p (.lst (qs.map V.ref ++ [.ref q]))) p (qs ++ [q]) :=
  ⟨by rw [upd_same, List.map_append]; rfl, n.ne, fun y hy => by
    rcases List.mem_append.mp hy with hy | hy
    · obtain ⟨ms, a, b⟩ := n.each y hy
      exact ⟨ms, ⟨(upd_ne (hqs y hy)).trans a.at_, a.ne, a.len, a.bd⟩, b⟩
    · rw [List.mem_singleton] at hy
      subst hy
      exact ⟨ns, ⟨(upd_ne hpq).trans hq.at_, hq.ne, hq.len, hq.bd⟩, h0⟩⟩
theorem pick3 {w : Nat} (h0 : 1 ≤ w) (h1 : w ≤ 3) : ∃ v : Int, atI [V.int 8, .int 7, .int 2] ((w : Int) - 1) = some (.int v) ∧ 0 < v ∧ v ≤ 8 := by
  have : w = 1 ∨ w = 2 ∨ w = 3 := by omega
  rcases this with rfl | rfl | rfl
  · exact ⟨8, atI_nat (j := 0) rfl, by decide, by decide⟩
  · exact ⟨7, atI_nat (j := 1) rfl, by decide, by decide⟩
  · exact ⟨2, atI_nat (j := 2) rfl, by decide, by decide⟩
section
variable {P : Program} {w : World} {K : PySem.W.Frag} {mg : Str → Option Value} {base : Heap}
theorem ok_number (T : Txt K mg) : FnOk P w K mg base CX0 2 T.a_number T.d_number ["_law_stream_here", "_law_most"] (spNumber) := by
  refine T.F_number.ok sc__law_number (fun vs H Q E h => ?_) (fun cdv A outer s H vs Q E hr h => ⟨_, (pss_cons (ps_set (i := 2) sc__law_number.nd rfl (.inl rfl) (pe_call (ok_draw T) (hr.mono (by decide)) (by rfl) T.g_draw T.F_draw.kp T.b_draw .nil pass0 (pa_cons (pv 0) (pa_cons pe_int pa_nil))))
      (pss_cons (ps_if (pt_cmpR op_eq (pv 2) pe_int (nomark _))
      (pss_one (ps_ret (pe_op op_sub (pe_call (ok_draw T) (hr.mono (by decide)) (by rfl) T.g_draw T.F_draw.kp T.b_draw .nil pass0 (pa_cons (pv 0) (pa_cons (pe_op op_add (pe_op op_mul pe_int (pv 1)) pe_int) pa_nil))) (pv 1))))
      pss_nil)
      (pss_cons (ps_if (pt_cmpR op_eq (pv 2) pe_int (nomark _))
      (pss_one (ps_ret (pe_op op_mul (pe_op op_sub (pv 1) (pe_call (ok_draw T) (hr.mono (by decide)) (by rfl) T.g_draw T.F_draw.kp T.b_draw .nil pass0 (pa_cons (pv 0) (pa_cons pe_int pa_nil)))) (pe_op op_sub pe_int (pe_op op_mul pe_int (pe_call (ok_draw T) (hr.mono (by decide)) (by rfl) T.g_draw T.F_draw.kp T.b_draw .nil pass0 (pa_cons (pv 0) (pa_cons pe_int pa_nil))))))))
      pss_nil)
      (pss_one (ps_ret (pe_op op_sub (pe_call (ok_draw T) (hr.mono (by decide)) (by rfl) T.g_draw T.F_draw.kp T.b_draw .nil pass0 (pa_cons (pv 0) (pa_cons pe_int pa_nil))) pe_int)))))), ?_⟩)
  · first | (obtain ⟨rfl, _⟩ := h; rfl) | (obtain ⟨_, rfl, _⟩ := h; rfl) | (obtain ⟨_, _, rfl, _⟩ := h; rfl) | (obtain ⟨_, _, _, rfl, _⟩ := h; rfl) | (obtain ⟨_, _, _, _, rfl, _⟩ := h; rfl) | (obtain ⟨_, _, _, _, _, rfl, _⟩ := h; rfl) | (obtain ⟨_, _, _, _, _, _, rfl, _⟩ := h; rfl) | (obtain ⟨_, _, _, _, _, _, _, rfl, _⟩ := h; rfl) | (obtain ⟨_, _, _, _, _, _, _, _, rfl, _⟩ := h; rfl) | (obtain ⟨_, _, _, _, _, _, _, _, _, rfl, _⟩ := h; rfl) | (obtain ⟨_, _, _, _, _, _, _, _, _, _, rfl, _⟩ := h; rfl) | (obtain ⟨_, _, _, _, _, _, _, _, _, _, _, rfl, _⟩ := h; rfl) | (obtain ⟨_, _, _, _, _, _, _, _, _, _, _, _, rfl, _⟩ := h; rfl) | (obtain ⟨_, _, _, _, _, _, _, _, _, _, _, _, _, rfl, _⟩ := h; rfl) | (obtain ⟨_, _, _, _, _, _, _, _, _, _, _, _, _, _, rfl, _⟩ := h; rfl)
  · obtain ⟨S, L, ns, m, rfl, st, h0, h1, k⟩ := h
    try dsimp only [cxOf, Cx.nox, Cx.wish]
    refine st_of (σ := [some _, some _, none]) rfl ?_
    walk_at "rd"
    refine use_draw st (by decide) (by decide) (fun kd H1 k0 k1 x1 st1 => ?_)
    walk_at "rd"
    refine i_d (fun hk => ?_) (fun hk => ?_)
    · walk_at "rd"
      refine use_draw st1 (by omega) (by omega) (fun r H2 r0 r1 x2 st2 => ?_)
      walk_at "rd"
      exact k _ _ (by omega) (by omega) (x1.trans x2) st2
    · walk_at "rd"
      refine i_d (fun hk => ?_) (fun hk => ?_)
      · walk_at "rd"
        refine use_draw st1 (by decide) (by decide) (fun r H2 r0 r1 x2 st2 => ?_)
        walk_at "rd"
        refine use_draw st2 (by decide) (by decide) (fun e H3 e0 e1 x3 st3 => ?_)
        walk_at "rd"
        have he : e = 0 ∨ e = 1 := by omega
        rcases he with rfl | rfl
        · exact k _ _ (by omega) (by omega) ((x1.trans x2).trans x3) st3
        · exact k _ _ (by omega) (by omega) ((x1.trans x2).trans x3) st3
      · walk_at "rd"
        refine use_draw st1 (by decide) (by decide) (fun r H2 r0 r1 x2 st2 => ?_)
        walk_at "rd"
        exact k _ _ (by omega) (by omega) (x1.trans x2) st2
theorem ok_pool (T : Txt K mg) : FnOk P w K mg base CX0 3 T.a_pool T.d_pool ["_law_stream_here", "_law_wide"] (spPool) := by
  refine T.F_pool.ok sc__law_pool (fun vs H Q E h => ?_) (fun cdv A outer s H vs Q E hr h => ⟨_, (pss_cons (ps_set (i := 2) sc__law_pool.nd rfl (.inl rfl) (pe_lst pa_nil))
      (pss_cons (ps_for PassesOwn.never rfl (pi_range1 (by rfl) T.z_range (pa_cons (pv 1) pa_nil)) (pg_name (i := 3) sc__law_pool.nd rfl (.inl rfl))
      (pss_cons (ps_set (i := 4) sc__law_pool.nd rfl (.inl rfl) (pe_lst (pa_cons (pe_call (ok_number T) (hr.mono (by decide)) (by rfl) T.g_number T.F_number.kp T.b_number .nil pass0 (pa_cons (pv 0) (pa_cons (pe_op op_sub (pe_op op_pow pe_int pe_int) pe_int) pa_nil))) pa_nil)))
      (pss_cons (ps_for PassesOwn.never rfl (pi_range1 (by rfl) T.z_range (pa_cons (pe_call (ok_draw T) (hr.mono (by decide)) (by rfl) T.g_draw T.F_draw.kp T.b_draw .nil pass0 (pa_cons (pv 0) (pa_cons (pe_ix ix_list (pe_lst (pa_cons pe_int (pa_cons pe_int (pa_cons pe_int pa_nil)))) (pe_op op_sub (pv 1) pe_int) (fun _ _ => rfl)) pa_nil))) pa_nil)) (pg_name (i := 5) sc__law_pool.nd rfl (.inl rfl))
      (pss_one (ps_if (PW.pt (pw_and (pt_cmpR op_lt (pe_ix ix_list (pv 4) (pv 5) (fun _ _ => rfl)) (pe_op op_sub (pe_op op_pow pe_int pe_int) pe_int) (nomark _)) (pw_and1 (pt_cmpR op_eq (pe_call (ok_draw T) (hr.mono (by decide)) (by rfl) T.g_draw T.F_draw.kp T.b_draw .nil pass0 (pa_cons (pv 0) (pa_cons pe_int pa_nil))) pe_int (nomark _)))))
      (pss_one (ps_expr (pe_bm PySem.F.plainAttrs_list PySem.F.slot_list_append PySem.F.type_list_append mt_append (pv 4) (pa_cons (pe_op op_add (pe_ix ix_list (pv 4) (pv 5) (fun _ _ => rfl)) (pe_call (ok_draw T) (hr.mono (by decide)) (by rfl) T.g_draw T.F_draw.kp T.b_draw .nil pass0 (pa_cons (pv 0) (pa_cons pe_int pa_nil)))) pa_nil))))
      (pss_one (ps_expr (pe_bm PySem.F.plainAttrs_list PySem.F.slot_list_append PySem.F.type_list_append mt_append (pv 4) (pa_cons (pe_call (ok_number T) (hr.mono (by decide)) (by rfl) T.g_number T.F_number.kp T.b_number .nil pass0 (pa_cons (pv 0) (pa_cons (pe_op op_sub (pe_op op_pow pe_int pe_int) pe_int) pa_nil))) pa_nil)))))))
      (pss_one (ps_expr (pe_bm PySem.F.plainAttrs_list PySem.F.slot_list_append PySem.F.type_list_append mt_append (pv 2) (pa_cons (pv 4) pa_nil)))))))
      (pss_one (ps_ret (pv 2))))), ?_⟩)
  · first | (obtain ⟨rfl, _⟩ := h; rfl) | (obtain ⟨_, rfl, _⟩ := h; rfl) | (obtain ⟨_, _, rfl, _⟩ := h; rfl) | (obtain ⟨_, _, _, rfl, _⟩ := h; rfl) | (obtain ⟨_, _, _, _, rfl, _⟩ := h; rfl) | (obtain ⟨_, _, _, _, _, rfl, _⟩ := h; rfl) | (obtain ⟨_, _, _, _, _, _, rfl, _⟩ := h; rfl) | (obtain ⟨_, _, _, _, _, _, _, rfl, _⟩ := h; rfl) | (obtain ⟨_, _, _, _, _, _, _, _, rfl, _⟩ := h; rfl) | (obtain ⟨_, _, _, _, _, _, _, _, _, rfl, _⟩ := h; rfl) | (obtain ⟨_, _, _, _, _, _, _, _, _, _, rfl, _⟩ := h; rfl) | (obtain ⟨_, _, _, _, _, _, _, _, _, _, _, rfl, _⟩ := h; rfl) | (obtain ⟨_, _, _, _, _, _, _, _, _, _, _, _, rfl, _⟩ := h; rfl) | (obtain ⟨_, _, _, _, _, _, _, _, _, _, _, _, _, rfl, _⟩ := h; rfl) | (obtain ⟨_, _, _, _, _, _, _, _, _, _, _, _, _, _, rfl, _⟩ := h; rfl)
  · obtain ⟨S, L, ns, w, rfl, st, h0, h1, k⟩ := h
    try dsimp only [cxOf, Cx.nox, Cx.wish]
    refine st_of (σ := [some _, some _, none, none, none, none]) rfl ?_
    walk_at "rd"
    intro p hp
    have npS := st.neS hp
    have npL := st.neL hp
    walk_at "rd"
    with_reducible refine c_rng1 ?_
    walk_at "rd"
    refine ⟨by omega, by omega, for_range (lo := 0) (n := w) (fun i σ G => ∃ (qs : List Addr) (e3 e4 e5 : Option V), σ = [some (.ref S), some (.int (w : Int)), some (.ref p), e3, e4, e5] ∧ Strm S L ns G ∧ Ex S H G ∧ Pool S G p qs ∧ qs.length = i ∧ ∀ x ∈ qs, x ≠ p) ?_ ?_ ?_⟩
    · exact ⟨[], _, _, _, rfl, st.new hp, Ex.new (Ex.refl _ _) hp, ⟨upd_same, npS, fun q hq => nomatch hq⟩, rfl, fun q hq => nomatch hq⟩
    · rintro i σ G hi ⟨qs, e3, e4, e5, rfl, stG, xG, pl, hlen, hqp⟩
      walk_at "rd"
      refine use_number stG (by decide) (by decide) (fun z H1 z0 z1 x1 st1 => ?_)
      walk_at "rd"
      intro q hq
      have pl1 := pl.ex x1
      have hG1 := pl1.at_
      have nqp : q ≠ p := (ne_of_none hG1 hq).symm
      have nqS := st1.neS hq
      have nqL := st1.neL hq
      have hqx : ∀ x ∈ qs, x ≠ q := fun x hx => by
        obtain ⟨us, a, _⟩ := pl1.each x hx
        exact ne_of_none a.at_ hq
      have hqH : H q = none := by
        cases e : H q with
        | none => rfl
        | some o =>
          have := (xG.trans x1) _ _ nqS e
          rw [hq] at this
          cases this
      walk_at "rd"
      with_reducible refine c_rng1 ?_
      walk_at "rd"
      intro t ht
      walk_at "rd"
      obtain ⟨v, hv, v0, v8⟩ := pick3 h0 h1
      refine r_ixL (sql upd_same) hv ?_
      walk_at "rd"
      refine use_draw ((st1.new hq).new ht) v0 (by omega) (fun r H2 r0 r1 x2 st2 => ?_)
      have x02 : Ex S G H2 := x1.trans ((Ex.new (Ex.new (Ex.refl _ _) hq) ht).trans x2)
      have nm2 : Nums S H2 q [z] := ⟨x2 _ _ nqS (by walk_at "hp"), nqS, by simp, fun y hy => by
        rw [List.mem_singleton] at hy
        subst hy
        exact ⟨by omega, by omega⟩⟩
      walk_at "rd"
      refine ⟨by omega, by omega, for_range (lo := 0) (n := r.toNat) (fun j σ G3 => ∃ (ms : List Int) (e5 : Option V), σ = [some (.ref S), some (.int (w : Int)), some (.ref p), some (.int (0 + (i : Int))), some (.ref q), e5] ∧ Strm S L ns G3 ∧ Ex S H G3 ∧ Pool S G3 p qs ∧ Nums S G3 q ms ∧ ms.length = j + 1) ?_ ?_ ?_⟩
      · exact ⟨[z], e5, rfl, st2, xG.trans x02, pl.ex x02, nm2, rfl⟩
      · rintro j σ G3 hj ⟨ms, e5, rfl, st3, x3, pl3, nm3, hms⟩
        have hjl : j < ms.length := by omega
        have hz := nm3.get hjl
        have hm := map_at hjl
        have hsz : (ms.map V.int).length < sizeLine := smallLt (by rw [List.length_map]; omega)
        have h3 := nm3.at_
        have tail : ∀ (G4 : Hp) (y : Int), Ex S G3 G4 → Strm S L ns G4 → -(10 ^ 18) < y → y < 10 ^ 18 → Strm S L ns (upd G4 q (.lst (ms.map V.int ++ [.int y]))) ∧ Ex S H (upd G4 q (.lst (ms.map V.int ++ [.int y]))) ∧ Pool S (upd G4 q (.lst (ms.map V.int ++ [.int y]))) p qs ∧ Nums S (upd G4 q (.lst (ms.map V.int ++ [.int y]))) q (ms ++ [y]) ∧ (ms ++ [y]).length = j + 1 + 1 := by
          intro G4 y x4 st4 y0 y1
          refine ⟨st4.upd nqS nqL, Ex.mut (x3.trans x4) hqH, ?_, (nm3.ex x4).app (by omega) y0 y1, by simp [hms]⟩
          have pl4 := pl3.ex x4
          exact ⟨(upd_ne nqp.symm).trans pl4.at_, pl4.ne, fun x hx => by
            obtain ⟨us, a, b⟩ := pl4.each x hx
            exact ⟨us, ⟨(upd_ne (hqx x hx)).trans a.at_, a.ne, a.len, a.bd⟩, b⟩⟩
        rw [Int.zero_add]
        walk_at "rd"
        refine r_ixL (sql h3) (atI_nat hm) ?_
        have els : ∀ G4, Ex S G3 G4 → Strm S L ns G4 → ∃ (y : Int) (G5 : Hp), True := fun _ _ _ => ⟨0, G3, trivial⟩
        generalize ms[j] = y at hz hm
        walk_at "rd"
        refine i_d (fun hy => ?_) (fun hy => ?_)
        · walk_at "rd"
          refine use_draw st3 (by decide) (by decide) (fun d G4 d0 d1 x4 st4 => ?_)
          have h4 := (nm3.ex x4).at_
          walk_at "rd"
          refine i_d (fun hd => ?_) (fun hd => ?_)
          · walk_at "rd"
            refine r_ixL (sql h4) (atI_nat hm) ?_
            walk_at "rd"
            refine use_draw st4 (by decide) (by decide) (fun d' G5 d0' d1' x5 st5 => ?_)
            have h5 := (nm3.ex (x4.trans x5)).at_
            walk_at "rd"
            obtain ⟨t1, t2, t3, t4, t5⟩ := tail G5 (y + d') (x4.trans x5) st5 (by omega) (by omega)
            exact ⟨ms ++ [y + d'], some (.int (j : Int)), rfl, t1, t2, t3, t4, t5⟩
          · walk_at "rd"
            refine use_number st4 (by decide) (by decide) (fun d' G5 d0' d1' x5 st5 => ?_)
            have h5 := (nm3.ex (x4.trans x5)).at_
            walk_at "rd"
            obtain ⟨t1, t2, t3, t4, t5⟩ := tail G5 d' (x4.trans x5) st5 (by omega) (by omega)
            exact ⟨ms ++ [d'], some (.int (j : Int)), rfl, t1, t2, t3, t4, t5⟩
        · walk_at "rd"
          refine use_number st3 (by decide) (by decide) (fun d' G5 d0' d1' x5 st5 => ?_)
          have h5 := (nm3.ex x5).at_
          walk_at "rd"
          obtain ⟨t1, t2, t3, t4, t5⟩ := tail G5 d' x5 st5 (by omega) (by omega)
          exact ⟨ms ++ [d'], some (.int (j : Int)), rfl, t1, t2, t3, t4, t5⟩
      · rintro σ G3 ⟨ms, e5, rfl, st3, x3, pl3, nm3, hms⟩
        have hp3 := pl3.at_
        have hsz : (qs.map V.ref).length < sizeLine := smallLt (by rw [List.length_map]; omega)
        walk_at "rd"
        exact ⟨qs ++ [q], some (.int (0 + (i : Int))), some (.ref q), e5, rfl, st3.upd npS npL, Ex.mut x3 hp, pl3.app nm3 (by omega) nqp hqp, by simp [hlen], fun x hx => by
          rcases List.mem_append.mp hx with hx | hx
          · exact hqp x hx
          · rw [List.mem_singleton] at hx
            subst hx
            exact nqp⟩
    · rintro σ G ⟨qs, e3, e4, e5, rfl, stG, xG, pl, hlen, _⟩
      walk_at "rd"
      exact k p qs G hp xG stG pl hlen
end

end Tac1
section Tac2
/-! ### the words: "rd" goes on as far as it can; "hp" finds what stands at an address; "t" "f" a test that is known -/
local macro_rules | `(tactic| walk_at "h0") => `(tactic| first | assumption | exact upd_same)
local macro_rules | `(tactic| walk_at "n0") => `(tactic| first
  | assumption | (apply Ne.symm; assumption) | exact ne_nn (by assumption) (by walk_at "h0") | exact ne_nn' (by assumption) (by walk_at "h0"))
local macro_rules | `(tactic| walk_at "hq") => `(tactic| first
  | assumption | exact upd_same | exact (upd_ne (by walk_at "n0")).trans (by walk_at "hq"))
local macro_rules | `(tactic| walk_at "ne") => `(tactic| first
  | assumption | (apply Ne.symm; assumption) | exact ne_nn (by assumption) (by walk_at "hq") | exact ne_nn' (by assumption) (by walk_at "hq"))
local macro_rules | `(tactic| walk_at "hp") => `(tactic| first
  | assumption
  | exact upd_same
  | exact (upd_ne (by walk_at "ne")).trans (by walk_at "hp")
  | exact same_at (by assumption) (by walk_at "hp")
  | exact ex_at (by assumption) (by walk_at "ne") (by walk_at "hp"))
local macro_rules | `(tactic| walk_at "sm") => `(tactic| first
  | assumption
  | exact Same.refl _
  | exact same_new (by walk_at "sm") (by assumption)
  | exact same_mut (by walk_at "sm") (by assumption))
local macro_rules | `(tactic| walk_at "ex") => `(tactic| first
  | assumption
  | exact Ex.refl _ _
  | exact Ex.new (by walk_at "ex") (by assumption)
  | exact Ex.mut (by walk_at "ex") (by assumption)
  | exact Ex.at (by walk_at "ex"))
local macro_rules | `(tactic| walk_at "sa") => `(tactic| first
  | assumption
  | exact seq' (by assumption) (by walk_at "sm")
  | exact tup' (by assumption) (by walk_at "sm"))
local macro_rules | `(tactic| walk_at "sq") => `(tactic| first
  | assumption
  | exact seq' (by assumption) (by walk_at "sm")
  | exact tup' (by assumption) (by walk_at "sm")
  | exact sql (by walk_at "hp")
  | exact sqt (by walk_at "hp"))
local macro_rules | `(tactic| walk_at "tt") => `(tactic| first | (simp; done) | (simp; omega))
local macro_rules | `(tactic| walk_at "tf") => `(tactic| first
  | ((with_reducible show if _ = true then _ else _); refine i_T (by walk_at "tt") ?_)
  | ((with_reducible show if _ = true then _ else _); refine i_F (by walk_at "tt") ?_))
local macro_rules | `(tactic| walk_at "ix") => `(tactic| first
  | exact ixn (j := 0) (by simp)
  | exact ixn (j := 1) (by simp)
  | exact ixn (j := 2) (by simp)
  | exact ixn (j := 3) (by simp)
  | exact ixn (j := 4) (by simp)
  | exact ixn (j := 5) (by simp)
  | exact ixn (j := 6) (by simp)
  | exact ixn (j := 7) (by simp))
local macro_rules | `(tactic| walk_at "at") => `(tactic| first
  | exact atI_nat (j := 0) (by rfl)
  | exact atI_nat (j := 1) (by rfl)
  | exact atI_nat (j := 2) (by rfl)
  | exact atI_nat (j := 3) (by rfl)
  | exact atI_nat (j := 4) (by rfl)
  | exact atI_nat (j := 5) (by rfl)
  | exact atI_nat (j := 6) (by rfl)
  | exact atI_nat (j := 7) (by rfl))
local macro_rules | `(tactic| walk_at "rd1") => `(tactic| first
  | with_reducible refine c_seq ?_
  | with_reducible refine c_asg ?_
  | ((with_reducible refine c_gname ?_); try dsimp only [List.set])
  | with_reducible refine c_ret ?_
  | with_reducible refine c_ifs ?_
  | ((with_reducible show tVar _ _ _ _); refine c_var (by rfl) ?_)
  | with_reducible refine c_c ?_
  | with_reducible refine c_op ?_
  | with_reducible refine c_un ?_
  | with_reducible refine c_test ?_
  | with_reducible refine c_B ?_
  | with_reducible refine c_CB ?_
  | with_reducible refine c_cons ?_
  | with_reducible refine c_nil ?_
  | with_reducible refine c_call ?_
  | with_reducible refine c_lst ?_
  | with_reducible refine c_tup ?_
  | with_reducible refine c_drop ?_
  | with_reducible refine c_gsub ?_
  | with_reducible refine c_BM ?_
  | with_reducible refine c_BM0 ?_
  | with_reducible refine c_and ?_
  | with_reducible refine c_or ?_
  | with_reducible refine c_not ?_
  | with_reducible refine c_andV ?_
  | with_reducible refine c_orV ?_
  | with_reducible refine c_notV ?_
  | with_reducible refine c_if ?_
  | with_reducible refine c_chain ?_
  | with_reducible refine c_next ?_
  | with_reducible refine c_retN ?_
  | with_reducible refine c_yes ?_
  | ((with_reducible show rIn _ _ (V.bl _) _ _ _); first | refine r_inL (by walk_at "sq") rfl (flat_bl _) ?_ | refine r_inL (by walk_at "sq") rfl (by rfl) ?_)
  | with_reducible refine r_I0 ?_
  | with_reducible refine r_U ?_
  | with_reducible refine r_eqI ?_
  | with_reducible refine r_neI ?_
  | with_reducible refine r_eqB ?_
  | with_reducible refine r_neB ?_
  | with_reducible refine r_eqS ?_
  | with_reducible refine r_neS ?_
  | ((with_reducible show rIxL _ _ (V.int (OfNat.ofNat _)) _ _); refine r_ixL (by walk_at "sq") (by walk_at "at") ?_)
  | ((with_reducible show rIxT _ _ (V.int (OfNat.ofNat _)) _ _); refine r_ixT (by walk_at "sq") (by walk_at "at") ?_)
  | ((with_reducible show rI CMul _ _ _ _ _); refine r_I (by first | exact .inl ⟨by omega, by omega⟩ | exact .inr ⟨by omega, by omega⟩) ?_)
  | ((with_reducible show rI CDiv _ _ _ _ _); refine r_I ⟨by omega, by omega⟩ ?_)
  | ((with_reducible show rI (fun _ _ => _) _ _ _ _ _); refine r_I (by first | assumption | omega | decide) ?_)
  | with_reducible refine r_pow18 ?_
  | with_reducible refine r_pow17 ?_
  | ((with_reducible show rSetL _ _ _ _ _); refine r_setL (by walk_at "hp") (by walk_at "ix") ?_; try dsimp only [List.set]; try simp only [upd_upd])
  | ((with_reducible show tyV _ _ _ _ ∧ _); refine ⟨.inl ⟨rfl, _, by walk_at "sq"⟩, ?_⟩)
  | ((with_reducible show rPop _ _ _ _); refine r_pop (by walk_at "hp") ?_)
  | ((with_reducible show rAppend _ _ _ _); refine r_app (by walk_at "hp") (by first | assumption | exact smallLt (by omega) | exact smallLt (by simp <;> omega)) ?_)
  | ((with_reducible show _ ≤ sizeLine ∧ _); refine ⟨small (by simp), ?_⟩)
  | ((with_reducible show V.non = V.non ∧ _); refine ⟨rfl, ?_⟩)
  | with_reducible refine iteT ?_
  | with_reducible refine iteF ?_
  | with_reducible refine ⟨_, rfl, ?_⟩
  | with_reducible refine ⟨_, _, rfl, ?_⟩
  | with_reducible refine Or.inl ⟨_, rfl, ?_⟩
  | with_reducible refine Or.inr ⟨_, rfl, ?_⟩
  | ((with_reducible show ∃ _ _, [_] = [_] ∧ _); first
    | refine ⟨_, _, rfl, Or.inl (by walk_at "sa"), ?_⟩ | refine ⟨_, _, rfl, Or.inr (by walk_at "sa"), ?_⟩
    | refine ⟨_, _, rfl, Or.inl (by exact sql (by walk_at "hp")), ?_⟩ | refine ⟨_, _, rfl, Or.inr (by exact sqt (by walk_at "hp")), ?_⟩))
local macro_rules | `(tactic| walk_at "nw") => `(tactic| (intro _ _))
local macro_rules | `(tactic| walk_at "rdn") => `(tactic| repeat (first | walk_at "rd1" | ((with_reducible show ∀ _ : Addr, _ = none → _); intro _ _)))
local macro_rules | `(tactic| walk_at "rd") => `(tactic| repeat walk_at "rd1")

local macro_rules | `(tactic| walk_at "tp") => `(tactic| first
  | (with_reducible assumption)
  | with_reducible exact Tp.refl _
  | exact Tp.same (by walk_at "sm")
  | exact Tp.new (by walk_at "tp") (by with_reducible assumption)
  | exact Tp.lst (by walk_at "tp") (by walk_at "hp"))
local macro_rules | `(tactic| walk_at "rd1") => `(tactic| first
  | with_reducible refine c_sl ?_
  | with_reducible refine c_noPart ?_
  | with_reducible refine c_part ?_
  | ((with_reducible show rSlL _ _ _ _ _ _); refine r_slL (by walk_at "sq") ?_))
local macro_rules | `(tactic| walk_at "no") => `(tactic| ((with_reducible show if decide _ = true then _ else _); refine i_F (decide_eq_false (by decide +kernel)) ?_))
local macro_rules | `(tactic| walk_at "yes") => `(tactic| ((with_reducible show if decide _ = true then _ else _); refine i_T (decide_eq_true (by first | rfl | decide +kernel)) ?_))
local macro_rules | `(tactic| walk_at "wd") => `(tactic| repeat (first | walk_at "rd1" | walk_at "no" | walk_at "yes"))

/-! ### leaves, recipes, what they build: the numbers are the pool's -/
def intO : V → Option Int
  | .int i => some i
  | _ => none
def numsAt (H : Hp) (q : Addr) : List Int := match H q with
  | some (.lst xs) => xs.filterMap intO
  | _ => []
theorem fm_int : ∀ ms : List Int, (ms.map V.int).filterMap intO = ms
  | [] => rfl
  | x :: r => by
    show x :: (r.map V.int).filterMap intO = x :: r
    rw [fm_int r]
theorem numsAt_of {H : Hp} {q : Addr} {ms : List Int} (h : H q = some (.lst (ms.map V.int))) : numsAt H q = ms := by
  unfold numsAt
  rw [h]
  exact fm_int ms
/-- the pool's numbers of a column -/
def pn (H : Hp) (qs : List Addr) (c : Nat) : List Int := numsAt H (qs.getD c 0)
def Stp.frm (F : Nat → List Int) : Stp → Prop
  | .cmp _ c n => n ∈ F c
  | _ => True
def Frm (F : Nat → List Int) (ss : List Stp) : Prop := ∀ s ∈ ss, s.frm F
theorem Frm.snoc {F : Nat → List Int} {ss : List Stp} {s : Stp} (h : Frm F ss) (g : s.frm F) : Frm F (ss ++ [s]) := fun x hx => by
  rcases List.mem_append.mp hx with hx | hx
  · exact h x hx
  · rw [List.mem_singleton] at hx
    exact hx ▸ g
theorem frm_u {F : Nat → List Int} {s : Stp} (h : s = .neg ∨ s = .unt) : s.frm F := by
  rcases h with rfl | rfl <;> trivial
theorem pn_at {S p : Addr} {H : Hp} {qs : List Addr} (pl : Pool S H p qs) {c : Nat} (h : c < qs.length) : ∃ ms, Nums S H qs[c] ms ∧ pn H qs c = ms := by
  obtain ⟨ms, nm, _⟩ := pl.each _ (List.getElem_mem h)
  refine ⟨ms, nm, ?_⟩
  unfold pn
  rw [List.getD_eq_getElem?_getD, List.getElem?_eq_getElem h]
  exact numsAt_of nm.at_
theorem frm_ex {S p : Addr} {H H' : Hp} {qs : List Addr} (pl : Pool S H p qs) (e : Ex S H H') {s : Stp} (ok : s.ok qs.length) (h : s.frm (pn H' qs)) : s.frm (pn H qs) := by
  cases s with
  | cmp s c n =>
    have hc : c < qs.length := ok.2.1
    obtain ⟨ms, nm, em⟩ := pn_at pl hc
    have h : n ∈ pn H' qs c := h
    have e2 : pn H' qs c = ms := by
      unfold pn
      rw [List.getD_eq_getElem?_getD, List.getElem?_eq_getElem hc]
      exact numsAt_of (nm.ex e).at_
    show n ∈ pn H qs c
    rw [em, ← e2]
    exact h
  | _ => trivial
def spLeaf : Sp := fun vs H Q _ => ∃ (S L : Addr) (ns : List Int) (p : Addr) (qs : List Addr), vs = [.ref S, .ref p] ∧ Strm S L ns H ∧ Pool S H p qs ∧ 0 < qs.length ∧ qs.length ≤ 3 ∧
  ∀ (a : Addr) (s : Stp) H', Ex S H H' → Strm S L ns H' → H' a = some (.tup s.vals) → s.ok qs.length → s.need = 0 → s.frm (pn H qs) → Q (.ref a) H'
def spRecipe : Sp := fun vs H Q _ => ∃ (S L : Addr) (ns : List Int) (p : Addr) (qs : List Addr) (m : Int), vs = [.ref S, .ref p, .int m] ∧ Strm S L ns H ∧ Pool S H p qs ∧ 0 < qs.length ∧ qs.length ≤ 3 ∧ 0 < m ∧ m ≤ 1000 ∧
  ∀ q xs ss H', H q = none → Ex S H H' → Strm S L ns H' → H' q = some (.lst xs) → Stps qs.length H' xs ss → Valid ss → (exs ss).length = 1 → (ss.length : Int) ≤ m → Frm (pn H qs) ss → Q (.ref q) H'
def spBuilt (K : PySem.W.Frag) : Sp := fun vs H Q _ => ∃ (q : Addr) (xs : List V) (ss : List Stp) (w : Nat), vs = [.ref q] ∧ SqL K H q xs ∧ Stps w H xs ss ∧ Valid ss ∧ (exs ss).length = 1 ∧ ss.length ≤ 1000 ∧
  ∀ v t m H', Same H H' → exs ss = [t] → PTr K w H' v t m → m ≤ ss.length → Q v H'
theorem pick6 {e : Int} (h0 : 0 ≤ e) (h1 : e < 6) : ∃ s : Str, atI [V.str "<", .str "<=", .str "=", .str "!=", .str ">=", .str ">"] e = some (.str s) ∧ s ∈ signs := by
  have : e = 0 ∨ e = 1 ∨ e = 2 ∨ e = 3 ∨ e = 4 ∨ e = 5 := by omega
  rcases this with rfl | rfl | rfl | rfl | rfl | rfl
  · exact ⟨"<", atI_nat (j := 0) rfl, by simp [signs]⟩
  · exact ⟨"<=", atI_nat (j := 1) rfl, by simp [signs]⟩
  · exact ⟨"=", atI_nat (j := 2) rfl, by simp [signs]⟩
  · exact ⟨"!=", atI_nat (j := 3) rfl, by simp [signs]⟩
  · exact ⟨">=", atI_nat (j := 4) rfl, by simp [signs]⟩
  · exact ⟨">", atI_nat (j := 5) rfl, by simp [signs]⟩
theorem pickJ {e : Int} (h0 : 0 ≤ e) (h1 : e < 2) : ∃ b : Bool, atI [V.str "both", .str "either"] e = some (.str (jw b)) := by
  have : e = 0 ∨ e = 1 := by omega
  rcases this with rfl | rfl
  · exact ⟨false, atI_nat (j := 0) rfl⟩
  · exact ⟨true, atI_nat (j := 1) rfl⟩
theorem pickN {e : Int} (h0 : 0 ≤ e) (h1 : e < 2) : ∃ (s : Stp) (x : Str), atI [V.str "negation", .str "untrue"] e = some (.str x) ∧ s.vals = [.str x] ∧ (s = .neg ∨ s = .unt) := by
  have : e = 0 ∨ e = 1 := by omega
  rcases this with rfl | rfl
  · exact ⟨.neg, _, atI_nat (j := 0) rfl, rfl, .inl rfl⟩
  · exact ⟨.unt, _, atI_nat (j := 1) rfl, rfl, .inr rfl⟩
theorem need_u {s : Stp} (h : s = .neg ∨ s = .unt) : s.need = 1 := by
  rcases h with rfl | rfl <;> rfl
theorem ok_u {w : Nat} {s : Stp} (h : s = .neg ∨ s = .unt) : s.ok w := by
  rcases h with rfl | rfl <;> trivial
theorem len_u {ts : List Tr} {s : Stp} (h : s = .neg ∨ s = .unt) (hl : 1 ≤ ts.length) : (ex1 ts s).length = ts.length := by
  obtain ⟨us, t, rfl⟩ := snocT hl
  rcases h with rfl | rfl
  · rw [ex1_neg]
    simp
  · rw [ex1_unt]
    simp
theorem len_0 {ts : List Tr} {s : Stp} (h : s.need = 0) : (ex1 ts s).length = ts.length + 1 := by
  cases s with
  | cmp => simp [ex1]
  | mis => simp [ex1]
  | neg => simp [Stp.need] at h
  | unt => simp [Stp.need] at h
  | jn e k =>
    simp only [Stp.need] at h
    subst h
    simp [ex1]
theorem len_j {ts : List Tr} {e : Bool} {k : Nat} (h : k ≤ ts.length) : (ex1 ts (.jn e k)).length = ts.length + 1 - k := by
  simp [ex1]
  omega
section
variable {P : Program} {w : World} {K : PySem.W.Frag} {mg : Str → Option Value} {base : Heap}
theorem ok_leaf (T : Txt K mg) : FnOk P w K mg base CX0 3 T.a_leaf T.d_leaf ["_law_stream_here", "_law_pool_here"] (spLeaf) := by
  refine T.F_leaf.ok sc__law_leaf (fun vs H Q E h => ?_) (fun cdv A outer s H vs Q E hr h => ⟨_, (pss_cons (ps_set (i := 2) sc__law_leaf.nd rfl (.inl rfl) (pe_call (ok_draw T) (hr.mono (by decide)) (by rfl) T.g_draw T.F_draw.kp T.b_draw .nil pass0 (pa_cons (pv 0) (pa_cons pe_int pa_nil))))
      (pss_cons (ps_if (pt_cmpR op_eq (pv 2) pe_int (nomark _))
      (pss_one (ps_ret (pe_tup (pa_cons (pe_ix ix_list (pe_lst (pa_cons pe_str (pa_cons pe_str pa_nil))) (pe_call (ok_draw T) (hr.mono (by decide)) (by rfl) T.g_draw T.F_draw.kp T.b_draw .nil pass0 (pa_cons (pv 0) (pa_cons pe_int pa_nil))) (fun _ _ => rfl)) (pa_cons pe_int pa_nil)))))
      pss_nil)
      (pss_cons (ps_set (i := 3) sc__law_leaf.nd rfl (.inl rfl) (pe_call (ok_draw T) (hr.mono (by decide)) (by rfl) T.g_draw T.F_draw.kp T.b_draw .nil pass0 (pa_cons (pv 0) (pa_cons (pe_callB call_len_seq (by rfl) T.z_len PySem.boot_len (pa_cons (pv 1) pa_nil)) pa_nil))))
      (pss_cons (ps_if (pt_cmpR op_eq (pv 2) pe_int (nomark _))
      (pss_one (ps_ret (pe_tup (pa_cons pe_str (pa_cons (pv 3) pa_nil)))))
      pss_nil)
      (pss_cons (ps_set (i := 4) sc__law_leaf.nd rfl (.inl rfl) (pe_ix ix_list (pe_lst (pa_cons pe_str (pa_cons pe_str (pa_cons pe_str (pa_cons pe_str (pa_cons pe_str (pa_cons pe_str pa_nil))))))) (pe_call (ok_draw T) (hr.mono (by decide)) (by rfl) T.g_draw T.F_draw.kp T.b_draw .nil pass0 (pa_cons (pv 0) (pa_cons pe_int pa_nil))) (fun _ _ => rfl)))
      (pss_one (ps_ret (pe_tup (pa_cons (pv 4) (pa_cons (pv 3) (pa_cons (pe_ix ix_list (pe_ix ix_list (pv 1) (pv 3) (fun _ _ => rfl)) (pe_call (ok_draw T) (hr.mono (by decide)) (by rfl) T.g_draw T.F_draw.kp T.b_draw .nil pass0 (pa_cons (pv 0) (pa_cons (pe_callB call_len_seq (by rfl) T.z_len PySem.boot_len (pa_cons (pe_ix ix_list (pv 1) (pv 3) (fun _ _ => rfl)) pa_nil)) pa_nil))) (fun _ _ => rfl)) pa_nil))))))))))), ?_⟩)
  · first | (obtain ⟨rfl, _⟩ := h; rfl) | (obtain ⟨_, rfl, _⟩ := h; rfl) | (obtain ⟨_, _, rfl, _⟩ := h; rfl) | (obtain ⟨_, _, _, rfl, _⟩ := h; rfl) | (obtain ⟨_, _, _, _, rfl, _⟩ := h; rfl) | (obtain ⟨_, _, _, _, _, rfl, _⟩ := h; rfl) | (obtain ⟨_, _, _, _, _, _, rfl, _⟩ := h; rfl) | (obtain ⟨_, _, _, _, _, _, _, rfl, _⟩ := h; rfl) | (obtain ⟨_, _, _, _, _, _, _, _, rfl, _⟩ := h; rfl) | (obtain ⟨_, _, _, _, _, _, _, _, _, rfl, _⟩ := h; rfl) | (obtain ⟨_, _, _, _, _, _, _, _, _, _, rfl, _⟩ := h; rfl) | (obtain ⟨_, _, _, _, _, _, _, _, _, _, _, rfl, _⟩ := h; rfl) | (obtain ⟨_, _, _, _, _, _, _, _, _, _, _, _, rfl, _⟩ := h; rfl) | (obtain ⟨_, _, _, _, _, _, _, _, _, _, _, _, _, rfl, _⟩ := h; rfl) | (obtain ⟨_, _, _, _, _, _, _, _, _, _, _, _, _, _, rfl, _⟩ := h; rfl)
  · obtain ⟨S, L, ns, p, qs, rfl, st, pl, q0, q3, k⟩ := h
    try dsimp only [cxOf, Cx.nox, Cx.wish]
    refine st_of (σ := [some _, some _, none, none, none]) rfl ?_
    walk_at "rd"
    refine use_draw st (by decide) (by decide) (fun kd H1 k0 k1 x1 st1 => ?_)
    have pl1 := pl.ex x1
    have hp1 := pl1.at_
    walk_at "rd"
    refine i_d (fun hk => ?_) (fun hk => ?_)
    · walk_at "rd"
      intro y hy
      walk_at "rd"
      refine use_draw (st1.new hy) (by decide) (by decide) (fun e H2 e0 e1 x2 st2 => ?_)
      have hy2 := x2 _ _ (st1.neS hy) upd_same
      obtain ⟨b, hb⟩ := pickJ e0 e1
      walk_at "rd"
      refine r_ixL (sql hy2) hb ?_
      walk_at "rd"
      intro a ha
      exact k a (.jn b 0) _ (Ex.new ((x1.trans (Ex.new (Ex.refl _ _) hy)).trans x2) ha) (st2.new ha) upd_same trivial rfl trivial
    · walk_at "rd"
      refine use_draw st1 (by rw [List.length_map]; omega) (by rw [List.length_map]; omega) (fun c H2 c0 c1 x2 st2 => ?_)
      rw [List.length_map] at c1
      have pl2 := pl1.ex x2
      have hp2 := pl2.at_
      obtain ⟨cn, rfl⟩ : ∃ cn : Nat, c = (cn : Int) := ⟨c.toNat, by omega⟩
      have hcn : cn < qs.length := by omega
      walk_at "rd"
      refine i_d (fun hk => ?_) (fun hk => ?_)
      · walk_at "rd"
        intro a ha
        exact k a (.mis cn) _ (Ex.new (x1.trans x2) ha) (st2.new ha) upd_same hcn rfl trivial
      · walk_at "rd"
        intro y hy
        walk_at "rd"
        refine use_draw (st2.new hy) (by decide) (by decide) (fun e H3 e0 e1 x3 st3 => ?_)
        have hy3 := x3 _ _ (st2.neS hy) upd_same
        obtain ⟨sg, hsg, hin⟩ := pick6 e0 e1
        have x23 := (Ex.new (Ex.refl _ _) hy).trans x3
        have pl3 := pl2.ex x23
        have hp3 := pl3.at_
        walk_at "rd"
        refine r_ixL (sql hy3) hsg ?_
        walk_at "rd"
        have hq : (qs.map V.ref)[cn]? = some (.ref qs[cn]) := by
          rw [List.getElem?_map, List.getElem?_eq_getElem hcn]
          rfl
        refine r_ixL (sql hp3) (atI_nat hq) ?_
        walk_at "rd"
        refine r_ixL (sql hp3) (atI_nat hq) ?_
        obtain ⟨ms, nm0, epn⟩ := pn_at pl hcn
        have nm := nm0.ex ((x1.trans x2).trans x23)
        have m0 : 0 < ms.length := by
          obtain ⟨ms2, nm2, m2⟩ := pl.each _ (List.getElem_mem hcn)
          have := numsAt_of nm2.at_
          rw [numsAt_of nm0.at_] at this
          rw [this]
          exact m2
        have hms := nm.at_
        have hm8 := nm.len
        walk_at "rd"
        refine use_draw st3 (by rw [List.length_map]; omega) (by rw [List.length_map]; omega) (fun d H4 d0 d1 x4 st4 => ?_)
        rw [List.length_map] at d1
        have hdl : d.toNat < ms.length := by omega
        have hz := (nm.ex x4).get hdl
        have hms4 := (nm.ex x4).at_
        walk_at "rd"
        refine r_ixL (sql hms4) (at_of (j := d.toNat) (by omega) (map_at hdl)) ?_
        walk_at "rd"
        intro a ha
        exact k a (.cmp sg cn ms[d.toNat]) _ (Ex.new (((x1.trans x2).trans x23).trans x4) ha) (st4.new ha) upd_same ⟨hin, hcn, hz.1, hz.2⟩ rfl (by show ms[d.toNat] ∈ pn H qs cn; rw [epn]; exact List.getElem_mem hdl)
theorem ok_recipe (T : Txt K mg) : FnOk P w K mg base CX0 4 T.a_recipe T.d_recipe ["_law_stream_here", "_law_pool_here", "_law_most"] (spRecipe) := by
  refine T.F_recipe.ok sc__law_recipe (fun vs H Q E h => ?_) (fun cdv A outer s H vs Q E hr h => ⟨_, (pss_cons (ps_set (i := 3) sc__law_recipe.nd rfl (.inl rfl) (pe_lst pa_nil))
      (pss_cons (ps_set (i := 4) sc__law_recipe.nd rfl (.inl rfl) pe_int)
      (pss_cons (ps_set (i := 5) sc__law_recipe.nd rfl (.inl rfl) (pe_op op_add pe_int (pe_call (ok_draw T) (hr.mono (by decide)) (by rfl) T.g_draw T.F_draw.kp T.b_draw .nil pass0 (pa_cons (pv 0) (pa_cons (pv 2) pa_nil)))))
      (pss_cons (ps_for PassesOwn.never rfl (pi_range1 (by rfl) T.z_range (pa_cons (pv 5) pa_nil)) (pg_name (i := 6) sc__law_recipe.nd rfl (.inl rfl))
      (pss_cons (ps_set (i := 7) sc__law_recipe.nd rfl (.inl rfl) (pe_call (ok_draw T) (hr.mono (by decide)) (by rfl) T.g_draw T.F_draw.kp T.b_draw .nil pass0 (pa_cons (pv 0) (pa_cons pe_int pa_nil))))
      (pss_cons (ps_set (i := 8) sc__law_recipe.nd rfl (.inl rfl) (pv 4))
      (Evl.pss_cut (ps_if (pt_cmpR op_lt (pe_op op_add (pv 6) pe_int) (pv 5) (nomark _))
      (pss_one (ps_set (i := 8) sc__law_recipe.nd rfl (.inl rfl) (pe_call (ok_draw T) (hr.mono (by decide)) (by rfl) T.g_draw T.F_draw.kp T.b_draw .nil pass0 (pa_cons (pv 0) (pa_cons (pe_op op_add (pv 4) pe_int) pa_nil)))))
      pss_nil)
      (pss_one (ps_if (pt_mid (PW.pt (pw_or (pt_cmpR op_eq (pv 4) pe_int (nomark _)) (pw_or1 (PW.pt (pw_and (pt_cmpR op_lt (pv 7) pe_int (nomark _)) (pw_and1 (pt_cmpR op_lt (pe_op op_add (pv 6) pe_int) (pv 5) (nomark _)))))))))
      (pss_cons (ps_expr (pe_bm PySem.F.plainAttrs_list PySem.F.slot_list_append PySem.F.type_list_append mt_append (pv 3) (pa_cons (pe_call (ok_leaf T) (hr.mono (by decide)) (by rfl) T.g_leaf T.F_leaf.kp T.b_leaf .nil pass0 (pa_cons (pv 0) (pa_cons (pv 1) pa_nil))) pa_nil)))
      (pss_one (ps_set (i := 4) sc__law_recipe.nd rfl (.inl rfl) (pe_op op_add (pv 4) pe_int))))
      (pss_one (ps_if (pt_mid (PW.pt (pw_and (pt_cmpR op_lt (pv 7) pe_int (nomark _)) (pw_and1 (PW.pt (pw_or (pt_cmpR op_lt (pe_op op_add (pv 6) pe_int) (pv 5) (nomark _)) (pw_or1 (pt_cmpR op_eq (pv 4) pe_int (nomark _)))))))))
      (pss_one (ps_expr (pe_bm PySem.F.plainAttrs_list PySem.F.slot_list_append PySem.F.type_list_append mt_append (pv 3) (pa_cons (pe_tup (pa_cons (pe_ix ix_list (pe_lst (pa_cons pe_str (pa_cons pe_str pa_nil))) (pe_op op_mod (pe_callTy call_int1 (by rfl) T.z_int (by decide +kernel) (pa_cons (pv 7) pa_nil)) pe_int) (fun _ _ => rfl)) pa_nil)) pa_nil))))
      (pss_cons (ps_expr (pe_bm PySem.F.plainAttrs_list PySem.F.slot_list_append PySem.F.type_list_append mt_append (pv 3) (pa_cons (pe_tup (pa_cons (pe_ix ix_list (pe_lst (pa_cons pe_str (pa_cons pe_str pa_nil))) (pe_op op_mod (pe_callTy call_int1 (by rfl) T.z_int (by decide +kernel) (pa_cons (pv 7) pa_nil)) pe_int) (fun _ _ => rfl)) (pa_cons (pv 8) pa_nil))) pa_nil)))
      (pss_one (ps_set (i := 4) sc__law_recipe.nd rfl (.inl rfl) (pe_op op_sub (pe_op op_add (pv 4) pe_int) (pv 8)))))))))))))
      (pss_one (ps_ret (pv 3))))))), ?_⟩)
  · first | (obtain ⟨rfl, _⟩ := h; rfl) | (obtain ⟨_, rfl, _⟩ := h; rfl) | (obtain ⟨_, _, rfl, _⟩ := h; rfl) | (obtain ⟨_, _, _, rfl, _⟩ := h; rfl) | (obtain ⟨_, _, _, _, rfl, _⟩ := h; rfl) | (obtain ⟨_, _, _, _, _, rfl, _⟩ := h; rfl) | (obtain ⟨_, _, _, _, _, _, rfl, _⟩ := h; rfl) | (obtain ⟨_, _, _, _, _, _, _, rfl, _⟩ := h; rfl) | (obtain ⟨_, _, _, _, _, _, _, _, rfl, _⟩ := h; rfl) | (obtain ⟨_, _, _, _, _, _, _, _, _, rfl, _⟩ := h; rfl) | (obtain ⟨_, _, _, _, _, _, _, _, _, _, rfl, _⟩ := h; rfl) | (obtain ⟨_, _, _, _, _, _, _, _, _, _, _, rfl, _⟩ := h; rfl) | (obtain ⟨_, _, _, _, _, _, _, _, _, _, _, _, rfl, _⟩ := h; rfl) | (obtain ⟨_, _, _, _, _, _, _, _, _, _, _, _, _, rfl, _⟩ := h; rfl) | (obtain ⟨_, _, _, _, _, _, _, _, _, _, _, _, _, _, rfl, _⟩ := h; rfl)
  · obtain ⟨S, L, ns, p, qs, m, rfl, st, pl, q0, q3, m0, m1, k⟩ := h
    try dsimp only [cxOf, Cx.nox, Cx.wish]
    refine st_of (σ := [some _, some _, some _, none, none, none, none, none, none]) rfl ?_
    walk_at "rd"
    intro q hq
    have nqS := st.neS hq
    have nqL := st.neL hq
    walk_at "rd"
    refine use_draw (st.new hq) (by omega) (by omega) (fun r H1 r0 r1 x1 st1 => ?_)
    obtain ⟨N, hN⟩ : ∃ N : Nat, 1 + r = (N : Int) := ⟨(1 + r).toNat, by omega⟩
    have hq1 := x1 _ _ nqS upd_same
    have x01 : Ex S H H1 := (Ex.new (Ex.refl _ _) hq).trans x1
    walk_at "rd"
    rw [hN]
    with_reducible refine c_rng1 ?_
    walk_at "rd"
    refine ⟨by omega, by omega, for_range (lo := 0) (n := N) (fun i σ G => ∃ (xs : List V) (ss : List Stp) (e6 e7 e8 : Option V), σ = [some (.ref S), some (.ref p), some (.int m), some (.ref q), some (.int ((exs ss).length : Int)), some (.int (N : Int)), e6, e7, e8] ∧
      Strm S L ns G ∧ Ex S H G ∧ G q = some (.lst xs) ∧ Stps qs.length G xs ss ∧ Valid ss ∧ Frm (pn H qs) ss ∧ ss.length = i ∧ (exs ss).length ≤ i ∧ (i = N → (exs ss).length = 1)) ?_ ?_ ?_⟩
    · exact ⟨[], [], none, none, none, rfl, st1, x01, hq1, .nil, .nil, (fun s h => nomatch h), rfl, Nat.zero_le _, fun h => by omega⟩
    · rintro i σ G hi ⟨xs, ss, e6, e7, e8, rfl, stG, xG, gq, sp, va, fr, hlen, hd, _⟩
      have hxl : xs.length = i := by rw [sp.len, hlen]
      walk_at "rd"
      refine use_draw stG (by decide) (by decide) (fun kd G1 k0 k1 x1 st1 => ?_)
      walk_at "rd"
      refine ⟨fun σ' G' => ∃ many : Nat, σ' = [some (.ref S), some (.ref p), some (.int m), some (.ref q), some (.int ((exs ss).length : Int)), some (.int (N : Int)), some (.int (0 + (i : Int))), some (.int kd), some (.int (many : Int))] ∧
        Strm S L ns G' ∧ Ex S G G' ∧ many ≤ (exs ss).length ∧ (i + 1 = N → many = (exs ss).length), ?_, ?_⟩
      · walk_at "rd"
        refine i_d (fun hk => ?_) (fun hk => ?_)
        · walk_at "rd"
          refine use_draw st1 (by omega) (by omega) (fun d G2 d0 d1 x2 st2 => ?_)
          walk_at "rd"
          exact ⟨d.toNat, by rw [Int.toNat_of_nonneg d0], st2, x1.trans x2, by omega, fun h => by omega⟩
        · walk_at "rd"
          exact ⟨st1, x1, Nat.le_refl _, fun _ => rfl⟩
      · rintro σ' G2 ⟨many, rfl, st2, x2, hm1, hm2⟩
        have g2 := x2 _ _ nqS gq
        have tp2 : Tp G G2 := by
          obtain ⟨⟨_, _, _, e, _⟩, _⟩ := stG
          exact Tp.ex x2 e
        have sp2 := sp.keep tp2
        have fin : ∀ (G3 : Hp) (a : Addr) (s : Stp) (dp : Int), Ex S G2 G3 → Strm S L ns G3 → G3 a = some (.tup s.vals) → s.ok qs.length → s.frm (pn H qs) → s.need ≤ (exs ss).length → (ex1 (exs ss) s).length ≤ i + 1 → (i + 1 = N → (ex1 (exs ss) s).length = 1) → dp = ((ex1 (exs ss) s).length : Int) →
            ∃ (xs' : List V) (ss' : List Stp) (e6 e7 e8 : Option V), [some (V.ref S), some (V.ref p), some (V.int m), some (V.ref q), some (V.int dp), some (V.int (N : Int)), some (V.int (0 + (i : Int))), some (V.int kd), some (V.int (many : Int))] = [some (.ref S), some (.ref p), some (.int m), some (.ref q), some (.int ((exs ss').length : Int)), some (.int (N : Int)), e6, e7, e8] ∧
              Strm S L ns (upd G3 q (.lst (xs ++ [.ref a]))) ∧ Ex S H (upd G3 q (.lst (xs ++ [.ref a]))) ∧ (upd G3 q (.lst (xs ++ [.ref a]))) q = some (.lst xs') ∧ Stps qs.length (upd G3 q (.lst (xs ++ [.ref a]))) xs' ss' ∧ Valid ss' ∧ Frm (pn H qs) ss' ∧ ss'.length = i + 1 ∧ (exs ss').length ≤ i + 1 ∧ (i + 1 = N → (exs ss').length = 1) := by
          intro G3 a s dp x3 st3 ha hs hf hn h1 h2 h3
          have g3 := x3 _ _ nqS g2
          have naq : a ≠ q := fun z => by
            subst z
            rw [ha] at g3
            cases Option.some.inj g3
          have tp3 : Tp G2 G3 := by
            obtain ⟨⟨_, _, _, e, _⟩, _⟩ := st2
            exact Tp.ex x3 e
          refine ⟨xs ++ [.ref a], ss ++ [s], some (.int (0 + (i : Int))), some (.int kd), some (.int (many : Int)), ?_, st3.upd nqS nqL, Ex.mut ((xG.trans x2).trans x3) hq, upd_same, (sp2.keep (Tp.lst tp3 g3)).snoc ((upd_ne naq).trans ha) hs, va.snoc hn, fr.snoc hf, by simp [hlen], by rw [exs_snoc]; exact h1, fun h => by rw [exs_snoc]; exact h2 h⟩
          rw [exs_snoc, h3]
        have hsz : xs.length < sizeLine := smallLt (by omega)
        walk_at "rd"
        refine c_mid ((exs ss).length = 0 ∨ (kd < 4 ∧ i + 1 < N)) ?_ (fun hA => ?_) (fun hA => ?_)
        · walk_at "rd"
          refine i_d (fun hk => ?_) (fun hk => ?_)
          · exact ⟨rfl, (decide_eq_true (by omega)).symm⟩
          walk_at "rd"
          refine i_d (fun hk2 => ?_) (fun hk2 => ?_)
          · walk_at "rd"
            exact ⟨rfl, by congr 1; apply propext; omega⟩
          · walk_at "rd"
            exact ⟨rfl, (decide_eq_false (by omega)).symm⟩
        · walk_at "rd"
          refine ⟨S, L, ns, p, qs, rfl, st2, (pl.ex xG).ex x2, q0, q3, fun a s G3 x3 st3 ha hs h0 hf => ?_⟩
          have g3 := x3 _ _ nqS g2
          walk_at "rd"
          exact fin G3 a s _ x3 st3 ha hs (frm_ex pl (xG.trans x2) hs hf) (by omega) (by rw [len_0 h0]; omega) (fun h => by rw [len_0 h0]; omega) (by rw [len_0 h0]; omega)
        · walk_at "rd"
          refine c_mid (kd < 6 ∧ (i + 1 < N ∨ (exs ss).length = 1)) ?_ (fun hB => ?_) (fun hB => ?_)
          · walk_at "rd"
            refine i_d (fun hk => ?_) (fun hk => ?_)
            · walk_at "rd"
              refine i_d (fun hk2 => ?_) (fun hk2 => ?_)
              · exact ⟨rfl, (decide_eq_true (by omega)).symm⟩
              · walk_at "rd"
                exact ⟨rfl, by congr 1; apply propext; omega⟩
            · exact ⟨rfl, (decide_eq_false (by omega)).symm⟩
          · walk_at "rd"
            intro y hy
            obtain ⟨s, sx, hs, hv, hu⟩ := pickN (e := kd % 2) (by omega) (by omega)
            walk_at "rd"
            refine r_ixL (sql upd_same) hs ?_
            walk_at "rd"
            intro a ha
            walk_at "rd"
            have hn := need_u hu
            have hl := len_u (ts := exs ss) hu (by omega)
            refine fin _ a s _ (Ex.new (Ex.new (Ex.refl _ _) hy) ha) ((st2.new hy).new ha) ?_ (ok_u hu) (frm_u hu) (by omega) (by omega) (fun h => by omega) (by omega)
            rw [upd_same, hv]
          · walk_at "rd"
            intro y hy
            obtain ⟨b, hb⟩ := pickJ (e := kd % 2) (by omega) (by omega)
            walk_at "rd"
            refine r_ixL (sql upd_same) hb ?_
            walk_at "rd"
            intro a ha
            walk_at "rd"
            have hl := len_j (ts := exs ss) (e := b) hm1
            exact fin _ a (.jn b many) _ (Ex.new (Ex.new (Ex.refl _ _) hy) ha) ((st2.new hy).new ha) upd_same trivial trivial hm1 (by omega) (fun h => by have := hm2 h; omega) (by omega)
    · rintro σ G ⟨xs, ss, e6, e7, e8, rfl, stG, xG, gq, sp, va, fr, hlen, hd, h1⟩
      walk_at "rd"
      exact k q xs ss G hq xG stG gq sp va (h1 rfl) (by omega) fr
end

end Tac2
section Tac3
/-! ### the words: "rd" goes on as far as it can; "hp" finds what stands at an address; "t" "f" a test that is known -/
local macro_rules | `(tactic| walk_at "h0") => `(tactic| first | (with_reducible assumption) | with_reducible exact upd_same)
local macro_rules | `(tactic| walk_at "n0") => `(tactic| first
  | (with_reducible assumption) | (apply Ne.symm; with_reducible assumption) | exact ne_nn (by with_reducible assumption) (by walk_at "h0") | exact ne_nn' (by with_reducible assumption) (by walk_at "h0"))
local macro_rules | `(tactic| walk_at "hq") => `(tactic| first
  | (with_reducible assumption) | with_reducible exact upd_same | exact (upd_ne (by walk_at "n0")).trans (by walk_at "hq"))
local macro_rules | `(tactic| walk_at "ne") => `(tactic| first
  | (with_reducible assumption) | (apply Ne.symm; with_reducible assumption) | exact ne_nn (by with_reducible assumption) (by walk_at "hq") | exact ne_nn' (by with_reducible assumption) (by walk_at "hq"))
local macro_rules | `(tactic| walk_at "sm") => `(tactic| first
  | (with_reducible assumption)
  | with_reducible exact Same.refl _
  | exact same_new (by walk_at "sm") (by with_reducible assumption)
  | exact same_mut (by walk_at "sm") (by with_reducible assumption))
local macro_rules | `(tactic| walk_at "hp") => `(tactic| first
  | (with_reducible assumption)
  | with_reducible exact upd_same
  | exact new_at (by with_reducible assumption) (by walk_at "sm")
  | exact old_at (by with_reducible assumption) (by walk_at "sm")
  | exact (upd_ne (by walk_at "ne")).trans (by walk_at "hp")
  | exact same_at (by with_reducible assumption) (by walk_at "hp")
  | exact ex_at (by with_reducible assumption) (by walk_at "ne") (by walk_at "hp"))
local macro_rules | `(tactic| walk_at "ex") => `(tactic| first
  | (with_reducible assumption)
  | exact Ex.refl _ _
  | exact Ex.new (by walk_at "ex") (by with_reducible assumption)
  | exact Ex.mut (by walk_at "ex") (by with_reducible assumption)
  | exact Ex.at (by walk_at "ex"))
local macro_rules | `(tactic| walk_at "sa") => `(tactic| first
  | (with_reducible assumption)
  | exact seq' (by with_reducible assumption) (by walk_at "sm")
  | exact tup' (by with_reducible assumption) (by walk_at "sm"))
local macro_rules | `(tactic| walk_at "sq") => `(tactic| first
  | (with_reducible assumption)
  | exact seq' (by with_reducible assumption) (by walk_at "sm")
  | exact tup' (by with_reducible assumption) (by walk_at "sm")
  | exact sql (by walk_at "hp")
  | exact sqt (by walk_at "hp"))
local macro_rules | `(tactic| walk_at "tt") => `(tactic| first | (simp; done) | (simp; omega))
local macro_rules | `(tactic| walk_at "tf") => `(tactic| first
  | ((with_reducible show if _ = true then _ else _); refine i_T (by walk_at "tt") ?_)
  | ((with_reducible show if _ = true then _ else _); refine i_F (by walk_at "tt") ?_))
local macro_rules | `(tactic| walk_at "ix") => `(tactic| first
  | exact ixn (j := 0) (by simp)
  | exact ixn (j := 1) (by simp)
  | exact ixn (j := 2) (by simp)
  | exact ixn (j := 3) (by simp)
  | exact ixn (j := 4) (by simp)
  | exact ixn (j := 5) (by simp)
  | exact ixn (j := 6) (by simp)
  | exact ixn (j := 7) (by simp))
local macro_rules | `(tactic| walk_at "at") => `(tactic| first
  | exact atI_nat (j := 0) (by rfl)
  | exact atI_nat (j := 1) (by rfl)
  | exact atI_nat (j := 2) (by rfl)
  | exact atI_nat (j := 3) (by rfl)
  | exact atI_nat (j := 4) (by rfl)
  | exact atI_nat (j := 5) (by rfl)
  | exact atI_nat (j := 6) (by rfl)
  | exact atI_nat (j := 7) (by rfl))
local macro_rules | `(tactic| walk_at "rd1") => `(tactic| first
  | with_reducible refine c_seq ?_
  | with_reducible refine c_asg ?_
  | ((with_reducible refine c_gname ?_); try dsimp only [List.set])
  | with_reducible refine c_ret ?_
  | with_reducible refine c_ifs ?_
  | ((with_reducible show tVar _ _ _ _); refine c_var (by rfl) ?_)
  | with_reducible refine c_c ?_
  | with_reducible refine c_op ?_
  | with_reducible refine c_un ?_
  | with_reducible refine c_test ?_
  | with_reducible refine c_B ?_
  | with_reducible refine c_CB ?_
  | with_reducible refine c_cons ?_
  | with_reducible refine c_nil ?_
  | with_reducible refine c_call ?_
  | with_reducible refine c_lst ?_
  | with_reducible refine c_tup ?_
  | with_reducible refine c_drop ?_
  | with_reducible refine c_gsub ?_
  | with_reducible refine c_BM ?_
  | with_reducible refine c_BM0 ?_
  | with_reducible refine c_and ?_
  | with_reducible refine c_or ?_
  | with_reducible refine c_not ?_
  | with_reducible refine c_andV ?_
  | with_reducible refine c_orV ?_
  | with_reducible refine c_notV ?_
  | with_reducible refine c_if ?_
  | with_reducible refine c_chain ?_
  | with_reducible refine c_next ?_
  | with_reducible refine c_retN ?_
  | with_reducible refine c_yes ?_
  | ((with_reducible show rIn _ _ (V.bl _) _ _ _); first | refine r_inL (by walk_at "sq") rfl (flat_bl _) ?_ | refine r_inL (by walk_at "sq") rfl (by rfl) ?_)
  | with_reducible refine r_I0 ?_
  | with_reducible refine r_U ?_
  | with_reducible refine r_eqI ?_
  | with_reducible refine r_neI ?_
  | with_reducible refine r_eqB ?_
  | with_reducible refine r_neB ?_
  | with_reducible refine r_eqS ?_
  | with_reducible refine r_neS ?_
  | ((with_reducible show rIxL _ _ (V.int (OfNat.ofNat _)) _ _); refine r_ixL (by walk_at "sq") (by walk_at "at") ?_)
  | ((with_reducible show rIxT _ _ (V.int (OfNat.ofNat _)) _ _); refine r_ixT (by walk_at "sq") (by walk_at "at") ?_)
  | ((with_reducible show rI CMul _ _ _ _ _); refine r_I (by first | exact .inl ⟨by omega, by omega⟩ | exact .inr ⟨by omega, by omega⟩) ?_)
  | ((with_reducible show rI CDiv _ _ _ _ _); refine r_I ⟨by omega, by omega⟩ ?_)
  | ((with_reducible show rI (fun _ _ => _) _ _ _ _ _); refine r_I (by first | assumption | omega | decide) ?_)
  | with_reducible refine r_pow18 ?_
  | with_reducible refine r_pow17 ?_
  | ((with_reducible show rSetL _ _ _ _ _); refine r_setL (by walk_at "hp") (by walk_at "ix") ?_; try dsimp only [List.set]; try simp only [upd_upd])
  | ((with_reducible show tyV _ _ _ _ ∧ _); refine ⟨.inl ⟨rfl, _, by walk_at "sq"⟩, ?_⟩)
  | ((with_reducible show rPop _ _ _ _); refine r_pop (by walk_at "hp") ?_)
  | ((with_reducible show rAppend _ _ _ _); refine r_app (by walk_at "hp") (by first | assumption | exact smallLt (by omega) | exact smallLt (by simp <;> omega)) ?_)
  | ((with_reducible show _ ≤ sizeLine ∧ _); refine ⟨small (by simp), ?_⟩)
  | ((with_reducible show V.non = V.non ∧ _); refine ⟨rfl, ?_⟩)
  | with_reducible refine iteT ?_
  | with_reducible refine iteF ?_
  | with_reducible refine ⟨_, rfl, ?_⟩
  | with_reducible refine ⟨_, _, rfl, ?_⟩
  | with_reducible refine Or.inl ⟨_, rfl, ?_⟩
  | with_reducible refine Or.inr ⟨_, rfl, ?_⟩
  | ((with_reducible show ∃ _ _, [_] = [_] ∧ _); first
    | refine ⟨_, _, rfl, Or.inl (by walk_at "sa"), ?_⟩ | refine ⟨_, _, rfl, Or.inr (by walk_at "sa"), ?_⟩
    | refine ⟨_, _, rfl, Or.inl (by exact sql (by walk_at "hp")), ?_⟩ | refine ⟨_, _, rfl, Or.inr (by exact sqt (by walk_at "hp")), ?_⟩))
local macro_rules | `(tactic| walk_at "nw") => `(tactic| (intro _ _))
local macro_rules | `(tactic| walk_at "rdn") => `(tactic| repeat (first | walk_at "rd1" | ((with_reducible show ∀ _ : Addr, _ = none → _); intro _ _)))
local macro_rules | `(tactic| walk_at "rd") => `(tactic| repeat walk_at "rd1")

local macro_rules | `(tactic| walk_at "tp") => `(tactic| first
  | (with_reducible assumption)
  | with_reducible exact Tp.refl _
  | exact Tp.same (by walk_at "sm")
  | exact Tp.new (by walk_at "tp") (by with_reducible assumption)
  | exact Tp.lst (by walk_at "tp") (by walk_at "hp"))
local macro_rules | `(tactic| walk_at "rd1") => `(tactic| first
  | with_reducible refine c_sl ?_
  | with_reducible refine c_noPart ?_
  | with_reducible refine c_part ?_
  | ((with_reducible show rSlL _ _ _ _ _ _); refine r_slL (by walk_at "sq") ?_))
local macro_rules | `(tactic| walk_at "no") => `(tactic| ((with_reducible show if decide _ = true then _ else _); refine i_F (decide_eq_false (by decide +kernel)) ?_))
local macro_rules | `(tactic| walk_at "yes") => `(tactic| ((with_reducible show if decide _ = true then _ else _); refine i_T (decide_eq_true (by first | rfl | decide +kernel)) ?_))
local macro_rules | `(tactic| walk_at "wd") => `(tactic| repeat (first | walk_at "rd1" | walk_at "no" | walk_at "yes"))

/-! ### what is built -/
section
variable {P : Program} {w : World} {K : PySem.W.Frag} {mg : Str → Option Value} {base : Heap}
theorem ok_built (T : Txt K mg) : FnOk P w K mg base CX0 1 T.a_built T.d_built ["_law_steps"] (spBuilt K) := by
  refine T.F_built.ok sc__law_built (fun vs H Q E h => ?_) (fun cdv A outer s H vs Q E hr h => ⟨_, (pss_cons (ps_set (i := 1) sc__law_built.nd rfl (.inl rfl) (pe_lst pa_nil))
      (pss_cons (ps_for PassesOwn.never rfl (pi_list (pv 0)) (pg_name (i := 2) sc__law_built.nd rfl (.inl rfl))
      (pss_one (ps_if (PW.pt (pw_or (pt_cmpR op_eq (pe_ix ix_tup (pv 2) pe_int (fun _ _ => rfl)) pe_str (nomark _)) (pw_or1 (pt_cmpR op_eq (pe_ix ix_tup (pv 2) pe_int (fun _ _ => rfl)) pe_str (nomark _)))))
      (pss_cons (ps_set (i := 3) sc__law_built.nd rfl (.inl rfl) (pe_bm0 PySem.F.plainAttrs_list PySem.F.slot_list_pop PySem.F.type_list_pop mt_pop (pv 1)))
      (pss_one (ps_expr (pe_bm PySem.F.plainAttrs_list PySem.F.slot_list_append PySem.F.type_list_append mt_append (pv 1) (pa_cons (pe_tup (pa_cons (pe_ix ix_tup (pv 2) pe_int (fun _ _ => rfl)) (pa_cons (pv 3) pa_nil))) pa_nil)))))
      (pss_one (ps_if (PW.pt (pw_or (pt_cmpR op_eq (pe_ix ix_tup (pv 2) pe_int (fun _ _ => rfl)) pe_str (nomark _)) (pw_or1 (pt_cmpR op_eq (pe_ix ix_tup (pv 2) pe_int (fun _ _ => rfl)) pe_str (nomark _)))))
      (pss_cons (ps_set (i := 4) sc__law_built.nd rfl (.inl rfl) (pe_op op_sub (pe_callB call_len_seq (by rfl) T.z_len PySem.boot_len (pa_cons (pv 1) pa_nil)) (pe_ix ix_tup (pv 2) pe_int (fun _ _ => rfl))))
      (pss_one (ps_set (i := 1) sc__law_built.nd rfl (.inl rfl) (pe_op op_cat (pe_slice sl_list (pv 1) po_none (po_some (pv 4))) (pe_lst (pa_cons (pe_op op_catT (pe_tup (pa_cons (pe_ix ix_tup (pv 2) pe_int (fun _ _ => rfl)) pa_nil)) (pe_callTy call_tuple_of (by rfl) T.z_tuple (by decide +kernel) (pa_cons (pe_slice sl_list (pv 1) (po_some (pv 4)) po_none) pa_nil))) pa_nil))))))
      (pss_one (ps_expr (pe_bm PySem.F.plainAttrs_list PySem.F.slot_list_append PySem.F.type_list_append mt_append (pv 1) (pa_cons (pv 2) pa_nil)))))))))
      (pss_one (ps_ret (pe_ix ix_list (pv 1) pe_int (fun _ _ => rfl)))))), ?_⟩)
  · first | (obtain ⟨rfl, _⟩ := h; rfl) | (obtain ⟨_, rfl, _⟩ := h; rfl) | (obtain ⟨_, _, rfl, _⟩ := h; rfl) | (obtain ⟨_, _, _, rfl, _⟩ := h; rfl) | (obtain ⟨_, _, _, _, rfl, _⟩ := h; rfl) | (obtain ⟨_, _, _, _, _, rfl, _⟩ := h; rfl) | (obtain ⟨_, _, _, _, _, _, rfl, _⟩ := h; rfl) | (obtain ⟨_, _, _, _, _, _, _, rfl, _⟩ := h; rfl) | (obtain ⟨_, _, _, _, _, _, _, _, rfl, _⟩ := h; rfl) | (obtain ⟨_, _, _, _, _, _, _, _, _, rfl, _⟩ := h; rfl) | (obtain ⟨_, _, _, _, _, _, _, _, _, _, rfl, _⟩ := h; rfl) | (obtain ⟨_, _, _, _, _, _, _, _, _, _, _, rfl, _⟩ := h; rfl) | (obtain ⟨_, _, _, _, _, _, _, _, _, _, _, _, rfl, _⟩ := h; rfl) | (obtain ⟨_, _, _, _, _, _, _, _, _, _, _, _, _, rfl, _⟩ := h; rfl) | (obtain ⟨_, _, _, _, _, _, _, _, _, _, _, _, _, _, rfl, _⟩ := h; rfl)
  · obtain ⟨q, xs, ss, w, rfl, hS, sp, va, h1, hl, k⟩ := h
    try dsimp only [cxOf, Cx.nox, Cx.wish]
    refine st_of (σ := [some _, none, none, none, none]) rfl ?_
    have hxl := sp.len
    walk_at "rd"
    intro d0 hd0
    walk_at "rd"
    with_reducible refine c_forList ?_
    walk_at "rd"
    refine ⟨⟨_, same_new (Same.refl _) hd0 |>.seq hS⟩, for_list (xs := xs) (fun i σ G => ∃ (d : Addr) (vs : List V) (m : Nat) (e2 e3 e4 : Option V), σ = [some (.ref q), some (.ref d), e2, e3, e4] ∧ Same H G ∧ H d = none ∧ G d = some (.lst vs) ∧ PTrs K w G vs (exs (ss.take i)) m ∧ m ≤ i) ?_ ?_ ?_ ?_⟩
    · exact ⟨d0, [], 0, none, none, none, rfl, same_new (Same.refl _) hd0, hd0, upd_same, .nil, Nat.le_refl _⟩
    · rintro i σ G _ ⟨_, _, _, _, _, _, _, sm, _⟩
      exact sm.seq hS
    · rintro i x σ G hi ⟨d, vs, m, e2, e3, e4, rfl, sm, hd, gd, pt, hm⟩
      obtain ⟨s, a, hs, rfl, ha0, ok⟩ := sp.get hi
      have ha := sm _ _ ha0
      have hT := exs_take hs
      have hn := va i s hs
      have hil : i < ss.length := (List.getElem?_eq_some_iff.mp hs).1
      have hvl := pt.len
      have hle := pt.le
      have hsz : vs.length < sizeLine := smallLt (by omega)
      have leaf : ∀ t : Tr, exs (ss.take (i + 1)) = exs (ss.take i) ++ [t] → PTr K w G (.ref a) t 1 → ∃ (d' : Addr) (vs' : List V) (m' : Nat) (f2 f3 f4 : Option V), [some (V.ref q), some (V.ref d), some (V.ref a), e3, e4] = [some (.ref q), some (.ref d'), f2, f3, f4] ∧ Same H (upd G d (.lst (vs ++ [.ref a]))) ∧ H d' = none ∧ (upd G d (.lst (vs ++ [.ref a]))) d' = some (.lst vs') ∧ PTrs K w (upd G d (.lst (vs ++ [.ref a]))) vs' (exs (ss.take (i + 1))) m' ∧ m' ≤ i + 1 := by
        intro t ht pa
        have tp : Tp G (upd G d (.lst (vs ++ [.ref a]))) := Tp.lst (Tp.refl _) gd
        refine ⟨d, vs ++ [.ref a], m + 1, _, _, _, rfl, same_mut sm hd, hd, upd_same, ?_, by omega⟩
        rw [ht]
        exact (pt.keep tp).app (.one (pa.keep tp))
      cases s with
      | cmp s c n =>
        obtain ⟨o1, o2, o3, o4⟩ := ok
        have ha : G a = some (.tup [.str s, .int (c : Int), .int n]) := ha
        walk_at "rd"
        refine i_F (decide_eq_false (sign_ne o1 (by decide +kernel))) ?_
        walk_at "rd"
        refine i_F (decide_eq_false (sign_ne o1 (by decide +kernel))) ?_
        walk_at "rd"
        refine i_F (decide_eq_false (sign_ne o1 (by decide +kernel))) ?_
        walk_at "rd"
        refine i_F (decide_eq_false (sign_ne o1 (by decide +kernel))) ?_
        walk_at "rd"
        exact leaf (.cmp s c n) (by rw [hT]; rfl) (.cmp o1 o2 o3 o4 (sqt ha))
      | mis c =>
        have ha : G a = some (.tup [.str "missing", .int (c : Int)]) := ha
        walk_at "wd"
        exact leaf (.mis c) (by rw [hT]; rfl) (.mis ok (sqt ha))
      | neg =>
        have ha : G a = some (.tup [.str "negation"]) := ha
        obtain ⟨us, t, hu⟩ := snocT hn
        rw [hu] at pt hT
        obtain ⟨ys, zs, m1, m2, rfl, rfl, p1, p2⟩ := pt.split
        obtain ⟨v, rfl, pv⟩ := p2.sing
        walk_at "wd"
        intro b hb
        have hys : ys.length < sizeLine := smallLt (by simp at hvl; omega)
        walk_at "wd"
        have nbd : d ≠ b := ne_of_none upd_same hb
        have hbG : G b = none := by
          rw [upd_ne nbd.symm] at hb
          exact hb
        have tp : Tp G (upd (upd (upd G d (.lst ys)) b (.tup [.str "negation", v])) d (.lst (ys ++ [.ref b]))) := Tp.lst (Tp.new (Tp.lst (Tp.refl _) gd) hb) ((upd_ne nbd).trans upd_same)
        refine ⟨d, ys ++ [.ref b], m1 + (m2 + 1), some (.ref a), some v, e4, rfl, same_mut (same_new (same_mut sm hd) hb) hd, hd, upd_same, ?_, by omega⟩
        rw [hT, ex1_neg]
        exact (p1.keep tp).app (.one (.neg (sqt ((upd_ne nbd.symm).trans upd_same)) (pv.keep tp)))
      | unt =>
        have ha : G a = some (.tup [.str "untrue"]) := ha
        obtain ⟨us, t, hu⟩ := snocT hn
        rw [hu] at pt hT
        obtain ⟨ys, zs, m1, m2, rfl, rfl, p1, p2⟩ := pt.split
        obtain ⟨v, rfl, pv⟩ := p2.sing
        walk_at "wd"
        intro b hb
        have hys : ys.length < sizeLine := smallLt (by simp at hvl; omega)
        walk_at "wd"
        have nbd : d ≠ b := ne_of_none upd_same hb
        have tp : Tp G (upd (upd (upd G d (.lst ys)) b (.tup [.str "untrue", v])) d (.lst (ys ++ [.ref b]))) := Tp.lst (Tp.new (Tp.lst (Tp.refl _) gd) hb) ((upd_ne nbd).trans upd_same)
        refine ⟨d, ys ++ [.ref b], m1 + (m2 + 1), some (.ref a), some v, e4, rfl, same_mut (same_new (same_mut sm hd) hb) hd, hd, upd_same, ?_, by omega⟩
        rw [hT, ex1_unt]
        exact (p1.keep tp).app (.one (.unt (sqt ((upd_ne nbd.symm).trans upd_same)) (pv.keep tp)))
      | jn e c =>
        have ha : G a = some (.tup [.str (jw e), .int (c : Int)]) := ha
        obtain ⟨us, ws, hu, hws⟩ := splitT (show c ≤ (exs (ss.take i)).length from hn)
        subst hws
        rw [hu] at pt hT
        obtain ⟨ys, zs, m1, m2, rfl, rfl, p1, p2⟩ := pt.split
        have hzl := p2.len
        have hyl := p1.len
        rw [ex1_jn] at hT
        have hr : ((ys ++ zs).length : Int) - (ws.length : Int) = (ys.length : Int) := by
          rw [List.length_append]
          omega
        have hb1 : ys.length ≤ 1000 := by rw [List.length_append] at hvl; omega
        have hb2 : zs.length ≤ 1000 := by rw [List.length_append] at hvl; omega
        cases e
        all_goals
          walk_at "wd"
          intro p1' hp1
          rw [cut_to hr]
          walk_at "wd"
          intro p2' hp2
          walk_at "wd"
          intro p3 hp3
          rw [cut_from hr]
          walk_at "wd"
          refine ⟨p3, _, rfl, .inl ⟨sql upd_same, fun p4 hp4 => ?_⟩⟩
          walk_at "wd"
          refine r_catT (xs := [.str (jw _)]) (ys := zs) (sqt (by walk_at "hp")) (sqt upd_same) (List.cons_ne_nil _ _) (small (by rw [List.length_singleton]; omega)) (fun hz => ?_) (fun hz p5 hp5 => ?_)
          · subst hz
            have hw0 : ws = [] := List.eq_nil_of_length_eq_zero hzl.symm
            subst hw0
            walk_at "wd"
            intro p6 hp6
            walk_at "wd"
            refine r_cat (xs := ys) (ys := [_]) (by walk_at "hp") upd_same (small (by rw [List.length_singleton]; omega)) (fun p7 hp7 => ?_)
            walk_at "wd"
            refine ⟨p7, _, m1 + (m2 + 1), some (.ref a), e3, some (.int _), rfl, by walk_at "sm", Same.free (by walk_at "sm") hp7, upd_same, ?_, by omega⟩
            rw [hT]
            exact (p1.keep (by walk_at "tp")).app (.one (.jn (sqt (by walk_at "hp")) (p2.keep (by walk_at "tp"))))
          · walk_at "wd"
            intro p6 hp6
            walk_at "wd"
            refine r_cat (xs := ys) (ys := [_]) (by walk_at "hp") upd_same (small (by rw [List.length_singleton]; omega)) (fun p7 hp7 => ?_)
            walk_at "wd"
            refine ⟨p7, _, m1 + (m2 + 1), some (.ref a), e3, some (.int _), rfl, by walk_at "sm", Same.free (by walk_at "sm") hp7, upd_same, ?_, by omega⟩
            rw [hT]
            exact (p1.keep (by walk_at "tp")).app (.one (.jn (show SqT K _ p5 ([.str (jw _)] ++ zs) from sqt (by walk_at "hp")) (p2.keep (by walk_at "tp"))))
    · rintro σ G ⟨d, vs, m, e2, e3, e4, rfl, sm, hd, gd, pt, hm⟩
      rw [hxl, List.take_length] at pt
      obtain ⟨t, ht⟩ := List.length_eq_one_iff.mp h1
      rw [ht] at pt
      obtain ⟨v, rfl, pv⟩ := pt.sing
      walk_at "rd"
      exact k v t m G sm ht pv (by omega)
end

/-! ### rows in a list -/
def Rws (K : PySem.W.Frag) (w : Nat) (H : Hp) (xs : List V) : Prop := ∀ x ∈ xs, ∃ (t : Addr) (us : List V), x = V.ref t ∧ SqT K H t us ∧ w ≤ us.length ∧ us.length ≤ 3 ∧ ∀ z ∈ us, VNI z
theorem Rws.keep {K : PySem.W.Frag} {w : Nat} {H H' : Hp} {xs : List V} (h : Rws K w H xs) (e : Tp H H') : Rws K w H' xs := fun x hx => let ⟨t, us, a, b, c⟩ := h x hx; ⟨t, us, a, e.tup b, c⟩
theorem Rws.app {K : PySem.W.Frag} {w : Nat} {H : Hp} {xs ys : List V} (h : Rws K w H xs) (g : Rws K w H ys) : Rws K w H (xs ++ ys) := fun x hx => by
  rcases List.mem_append.mp hx with hx | hx
  · exact h x hx
  · exact g x hx
theorem Rws.one {K : PySem.W.Frag} {w : Nat} {H : Hp} {t : Addr} {us : List V} (h : SqT K H t us) (hw : w ≤ us.length) (h3 : us.length ≤ 3) (hv : ∀ z ∈ us, VNI z) : Rws K w H [.ref t] := fun x hx => by
  rw [List.mem_singleton] at hx
  exact ⟨t, us, hx, h, hw, h3, hv⟩
theorem Strm.tp {S L : Addr} {ns : List Int} {H H1 : Hp} (s : Strm S L ns H) (e : Ex S H H1) : Tp H H1 := by
  obtain ⟨⟨_, _, _, a, _⟩, _⟩ := s
  exact Tp.ex e a

/-! ### parts_of -/
def spParts (K : PySem.W.Frag) : Sp := fun vs H Q _ => ∃ (v : V) (t : Tr) (w m : Nat), vs = [v] ∧ PTr K w H v t m ∧ m ≤ 1000 ∧ ∀ r us k H', Same H H' → SqT K H' r us → PTrs K w H' us (kids t) k → k + 1 ≤ m → Q (.ref r) H'
section
variable {P : Program} {w : World} {K : PySem.W.Frag} {mg : Str → Option Value} {base : Heap}
theorem ok_parts_of (T : Txt K mg) : FnOk P w K mg base CX0 1 T.a_parts_of T.d_parts_of ["predicate"] (spParts K) := by
  refine T.F_parts_of.ok sc_parts_of (fun vs H Q E h => ?_) (fun cdv A outer s H vs Q E hr h => ⟨_, (pss_cons (ps_if (PW.pt (pw_or (pt_cmpR op_in_seq (pe_ix ix_tup (pv 0) pe_int (fun _ _ => rfl)) (pe_glob (v := .ref T.c_SIGNS) rfl T.g_SIGNS rfl) (by rfl)) (pw_or1 (pt_cmpR op_eq (pe_ix ix_tup (pv 0) pe_int (fun _ _ => rfl)) pe_str (nomark _)))))
      (pss_one (ps_ret (pe_tup pa_nil)))
      pss_nil)
      (pss_one (ps_ret (pe_slice sl_tup (pv 0) (po_some pe_int) po_none)))), ?_⟩)
  · first | (obtain ⟨rfl, _⟩ := h; rfl) | (obtain ⟨_, rfl, _⟩ := h; rfl) | (obtain ⟨_, _, rfl, _⟩ := h; rfl) | (obtain ⟨_, _, _, rfl, _⟩ := h; rfl) | (obtain ⟨_, _, _, _, rfl, _⟩ := h; rfl) | (obtain ⟨_, _, _, _, _, rfl, _⟩ := h; rfl) | (obtain ⟨_, _, _, _, _, _, rfl, _⟩ := h; rfl) | (obtain ⟨_, _, _, _, _, _, _, rfl, _⟩ := h; rfl) | (obtain ⟨_, _, _, _, _, _, _, _, rfl, _⟩ := h; rfl) | (obtain ⟨_, _, _, _, _, _, _, _, _, rfl, _⟩ := h; rfl) | (obtain ⟨_, _, _, _, _, _, _, _, _, _, rfl, _⟩ := h; rfl) | (obtain ⟨_, _, _, _, _, _, _, _, _, _, _, rfl, _⟩ := h; rfl) | (obtain ⟨_, _, _, _, _, _, _, _, _, _, _, _, rfl, _⟩ := h; rfl) | (obtain ⟨_, _, _, _, _, _, _, _, _, _, _, _, _, rfl, _⟩ := h; rfl) | (obtain ⟨_, _, _, _, _, _, _, _, _, _, _, _, _, _, rfl, _⟩ := h; rfl)
  · obtain ⟨v, t, w, m, rfl, pt, hm, k⟩ := h
    try dsimp only [cxOf, Cx.nox, Cx.wish]
    refine st_of (σ := [some _]) rfl ?_
    cases pt with
    | cmp hs hc h0 h1 h =>
      walk_at "rd"
      refine r_inT (T.l_SIGNS _) rfl rfl ?_
      rw [if_neg (by decide), sign_in hs]
      walk_at "rd"
      intro r hr
      exact k r [] 0 _ (same_new (Same.refl _) hr) (sqt upd_same) .nil (by omega)
    | mis hc h =>
      walk_at "rd"
      refine r_inT (T.l_SIGNS _) rfl rfl ?_
      rw [if_neg (by decide), show inV (V.str "missing") [.str "<", .str "<=", .str "=", .str "!=", .str ">=", .str ">"] = false by decide +kernel]
      walk_at "wd"
      intro r hr
      exact k r [] 0 _ (same_new (Same.refl _) hr) (sqt upd_same) .nil (by omega)
    | neg h p =>
      walk_at "rd"
      refine r_inT (T.l_SIGNS _) rfl rfl ?_
      rw [if_neg (by decide), show inV (V.str "negation") [.str "<", .str "<=", .str "=", .str "!=", .str ">=", .str ">"] = false by decide +kernel]
      walk_at "wd"
      refine r_slT h (by simp [HT.sIx]) (fun q hq => ?_)
      exact k q _ _ _ (same_new (Same.refl _) hq) (sqt upd_same) (.one (p.keep (.new (.refl _) hq))) (by omega)
    | unt h p =>
      walk_at "rd"
      refine r_inT (T.l_SIGNS _) rfl rfl ?_
      rw [if_neg (by decide), show inV (V.str "untrue") [.str "<", .str "<=", .str "=", .str "!=", .str ">=", .str ">"] = false by decide +kernel]
      walk_at "wd"
      refine r_slT h (by simp [HT.sIx]) (fun q hq => ?_)
      exact k q _ _ _ (same_new (Same.refl _) hq) (sqt upd_same) (.one (p.keep (.new (.refl _) hq))) (by omega)
    | jn h p =>
      walk_at "rd"
      refine r_inT (T.l_SIGNS _) rfl rfl ?_
      rw [if_neg (by decide), jw_nin]
      walk_at "rd"
      refine i_F (decide_eq_false (jw_ne (by decide +kernel))) ?_
      walk_at "rd"
      refine r_slT h (by simp [HT.sIx]) (fun q hq => ?_)
      exact k q _ _ _ (same_new (Same.refl _) hq) (sqt (by rw [upd_same]; congr 2; exact cut_from (xs := [_]) rfl)) (p.keep (.new (.refl _) hq)) (by omega)
end

def spCmps (K : PySem.W.Frag) (fu : Nat) : Sp := fun vs H Q _ => ∃ (v : V) (t : Tr) (w m : Nat), vs = [v] ∧ PTr K w H v t m ∧ m ≤ fu ∧ fu ≤ 1000 ∧ ∀ r xs H', H r = none → Same H H' → H' r = some (.lst xs) → CL K H' xs (cmps t) → Q (.ref r) H'
theorem spCmps_zero {K : PySem.W.Frag} {vs : List V} {H : Hp} {Q : VK} {E : XK} (h : spCmps K 0 vs H Q E) : False := by
  obtain ⟨v, t, w, m, _, p, hm, _⟩ := h
  have := p.pos
  omega
theorem cmpsL_take {ts : List Tr} {i : Nat} {t : Tr} (h : ts[i]? = some t) : cmpsL (ts.take (i + 1)) = cmpsL (ts.take i) ++ cmps t := by
  rw [List.take_add_one, h, cmpsL_app]
  exact congrArg _ (cmpsL_one t)
theorem cmpsL_le (ts : List Tr) (i : Nat) : (cmpsL (ts.take i)).length ≤ (cmpsL ts).length := by
  have e : cmpsL ts = cmpsL (ts.take i) ++ cmpsL (ts.drop i) := by rw [← cmpsL_app, List.take_append_drop]
  rw [e, List.length_append]
  omega
local macro_rules | `(tactic| walk_at "rd1") => `(tactic| first
  | with_reducible refine c_scI ?_
  | with_reducible refine c_iTup ?_
  | with_reducible refine c_iList ?_)
section
variable {P : Program} {w : World} {K : PySem.W.Frag} {mg : Str → Option Value} {base : Heap}
theorem ok_comparisons_of (T : Txt K mg) : ∀ fu : Nat, FnOk P w K mg base CX0 (fu + 3) T.a_comparisons_of T.d_comparisons_of ["predicate"] (spCmps K fu) := by
  refine Nat.rec (motive := fun fu => FnOk P w K mg base CX0 (fu + 3) T.a_comparisons_of T.d_comparisons_of ["predicate"] (spCmps K fu)) ⟨fun vs H Q E h => (spCmps_zero h).elim, fun _ _ _ _ _ _ _ _ _ _ _ _ _ h => (spCmps_zero h).elim⟩ (fun fu ih => ?_)
  refine T.F_comparisons_of.ok sc_comparisons_of (fun vs H Q E h => ?_) (fun cdv A outer s H vs Q E hr h => ⟨_, (pss_cons (ps_if (pt_cmpR op_in_seq (pe_ix ix_tup (pv 0) pe_int (fun _ _ => rfl)) (pe_glob (v := .ref T.c_SIGNS) rfl T.g_SIGNS rfl) (by rfl))
      (pss_one (ps_ret (pe_lst (pa_cons (pv 0) pa_nil))))
      pss_nil)
      (pss_one (ps_ret (pe_lc2 (own := [("part", 1), ("found", 2)]) (vs1 := [2]) (g := gName 1) (g1 := gName 2) (tt := tYes) (tt1 := tYes) rfl sc_comparisons_of.nd (pi_tup (pe_call (ok_parts_of T) (hr.mono (by omega)) (by rfl) T.g_parts_of T.F_parts_of.kp T.b_parts_of .nil pass0 (pa_cons (pv 0) pa_nil))) (blkOk_by (own := [("part", 1), ("found", 2)]) (N := N_comparisons_of) (sc := defScope s_comparisons_of) (by decide +kernel)) (by decide) (fun _ _ _ _ _ => pg_name (i := 1) sc_comparisons_of.nd rfl (Or.inl rfl)) (fun _ _ _ _ _ => pts_nil) (fun _ _ _ _ _ => (pi_listB (pe_call ih (hr.mono (by omega)) (by rfl) T.g_comparisons_of T.F_comparisons_of.kp T.b_comparisons_of .nil pass0 (pa_cons (pv 1) pa_nil)))) (fun _ _ _ _ _ => pg_name (i := 2) sc_comparisons_of.nd rfl (Or.inl rfl)) (fun _ _ _ _ _ => pts_nil) (fun _ _ _ _ _ => (pv 2)))))), ?_⟩)
  · first | (obtain ⟨rfl, _⟩ := h; rfl) | (obtain ⟨_, rfl, _⟩ := h; rfl) | (obtain ⟨_, _, rfl, _⟩ := h; rfl) | (obtain ⟨_, _, _, rfl, _⟩ := h; rfl) | (obtain ⟨_, _, _, _, rfl, _⟩ := h; rfl) | (obtain ⟨_, _, _, _, _, rfl, _⟩ := h; rfl) | (obtain ⟨_, _, _, _, _, _, rfl, _⟩ := h; rfl) | (obtain ⟨_, _, _, _, _, _, _, rfl, _⟩ := h; rfl) | (obtain ⟨_, _, _, _, _, _, _, _, rfl, _⟩ := h; rfl) | (obtain ⟨_, _, _, _, _, _, _, _, _, rfl, _⟩ := h; rfl) | (obtain ⟨_, _, _, _, _, _, _, _, _, _, rfl, _⟩ := h; rfl) | (obtain ⟨_, _, _, _, _, _, _, _, _, _, _, rfl, _⟩ := h; rfl) | (obtain ⟨_, _, _, _, _, _, _, _, _, _, _, _, rfl, _⟩ := h; rfl) | (obtain ⟨_, _, _, _, _, _, _, _, _, _, _, _, _, rfl, _⟩ := h; rfl) | (obtain ⟨_, _, _, _, _, _, _, _, _, _, _, _, _, _, rfl, _⟩ := h; rfl)
  · obtain ⟨v, t, w, m, rfl, pt, hm, hf, k⟩ := h
    try dsimp only [cxOf, Cx.nox, Cx.wish]
    refine st_of (σ := [some _, none, none]) rfl ?_
    have many : (∀ s c n, t ≠ .cmp s c n) → tLc2 (iTup K (tCall (spParts K) [] E0 (tCons (tVar 0) tNil))) (gName 1) tYes (iList K (tCall (spCmps K fu) [] E0 (tCons (tVar 1) tNil))) (gName 2) tYes (tVar 2) [1, 2] [2] [some v, none, none] H Q := fun nt => by
      refine c_lc2 ?_
      walk_at "rd"
      refine ⟨_, t, w, m, rfl, pt, by omega, fun r1 us1 k1 H1 s1 h1 p1 hk => ?_⟩
      have few := p1.few
      walk_at "rd"
      refine ⟨⟨_, h1⟩, fun D hD => walkT (xs := us1) (fun i G => Same H1 G ∧ ∃ xs, G D = some (.lst xs) ∧ CL K G xs (cmpsL ((kids t).take i))) ?_ ?_ ?_ ?_⟩
      · exact ⟨same_new (Same.refl _) hD, [], upd_same, .nil⟩
      · rintro i G _ ⟨sG, _⟩
        exact tup' h1 sG
      · rintro i y G hi ⟨sG, xs, gD, cl⟩
        obtain ⟨t', k', hk', p', le⟩ := p1.get hi
        walk_at "rd"
        refine ⟨rfl, ?_⟩
        walk_at "rd"
        refine ⟨y, t', w, k', rfl, p'.keep (.same sG), by omega, by omega, fun r2 ys G2 hr2 s2 g2 cl2 => ?_⟩
        have gD2 := s2 _ _ gD
        have n2 : D ≠ r2 := ne_of_none gD hr2
        have sz1 := cl.len
        have sz2 := cl2.len
        have sz3 := p'.few
        have sz4 := cmpsL_le (kids t) i
        walk_at "rd"
        refine ⟨⟨_, sql g2⟩, walkL (xs := ys) (fun j G3 => Same H1 G3 ∧ G3 r2 = some (.lst ys) ∧ G3 D = some (.lst (xs ++ ys.take j)) ∧ Tp G2 G3) ?_ ?_ ?_ ?_⟩
        · exact ⟨sG.trans s2, g2, by rw [List.take_zero, List.append_nil]; exact gD2, Tp.refl _⟩
        · rintro j G3 _ ⟨_, g3, _⟩
          exact sql g3
        · rintro j z G3 hj ⟨s3, g3, gD3, tp3⟩
          obtain ⟨hj1, hz⟩ := List.getElem?_eq_some_iff.mp hj
          walk_at "rd"
          refine ⟨rfl, ?_⟩
          walk_at "rd"
          refine ⟨_, gD3, smallLt (by rw [List.length_append, List.length_take]; omega), same_mut s3 hD, (upd_ne n2.symm).trans g3, ?_, tp3.lst gD3⟩
          rw [upd_same, List.take_succ_eq_append_getElem hj1, hz, List.append_assoc]
        · rintro G3 ⟨s3, g3, gD3, tp3⟩
          rw [List.take_length] at gD3
          refine ⟨s3, xs ++ ys, gD3, ?_⟩
          rw [cmpsL_take hk']
          exact ((cl.keep (.same s2)).app cl2).keep tp3
      · rintro G ⟨sG, xs, gD, cl⟩
        rw [p1.len, List.take_length, ← cmps_kids nt] at cl
        exact k D xs G (free' hD s1) (s1.trans sG) gD cl
    rcases pt.word with ⟨a, s, c, n, rfl, rfl, hs, hc, h0, h1, h⟩ | ⟨a, c, rfl, rfl, hc, h⟩ | ⟨a, x, vs, rfl, h, hx, hmi, hcase⟩
    · walk_at "rd"
      refine r_inT (T.l_SIGNS _) rfl rfl ?_
      rw [if_neg (by decide), sign_in hs]
      walk_at "rd"
      intro r hr
      refine k r _ _ hr (same_new (Same.refl _) hr) upd_same ?_
      rw [cmps]
      exact .cons (same_tup (same_new (Same.refl _) hr) h) .nil
    · walk_at "rd"
      refine r_inT (T.l_SIGNS _) rfl rfl ?_
      rw [if_neg (by decide), show inV (V.str "missing") [.str "<", .str "<=", .str "=", .str "!=", .str ">=", .str ">"] = false by decide +kernel]
      walk_at "wd"
      exact many (fun s c n e => by cases e)
    · walk_at "rd"
      refine r_inT (T.l_SIGNS _) rfl rfl ?_
      rw [if_neg (by decide), hx]
      walk_at "rd"
      exact many (fun s c n e => by subst e; rcases hcase with ⟨_, _, e⟩ | ⟨_, _, e⟩ | ⟨_, _, _, e⟩ <;> cases e)
/-- what a list of trees is -/
def PL (K : PySem.W.Frag) (w : Nat) (H : Hp) (xs : List V) (ts : List Tr) : Prop := xs.length = ts.length ∧ ∀ (i : Nat) (x : V), xs[i]? = some x → ∃ t m, ts[i]? = some t ∧ PTr K w H x t m ∧ m ≤ 16
def spNumbers (K : PySem.W.Frag) : Sp := fun vs H Q _ => ∃ (a : Addr) (xs : List V) (ts : List Tr) (w c : Nat) (us : List Int), vs = [.ref a, .int (c : Int)] ∧ SqL K H a xs ∧ PL K w H xs ts ∧ ts.length ≤ 5 ∧ us.length ≤ 50 ∧ (∀ s n, (s, c, n) ∈ cmpsL ts → n ∈ us) ∧
  ∀ p zs H', H p = none → Same H H' → H' p = some (.lst (zs.map V.int)) → Asc zs → (∀ z, z ∈ zs ↔ ∃ s, (s, c, z) ∈ cmpsL ts) → Q (.ref p) H'
theorem cmpsL_few {K : PySem.W.Frag} {w : Nat} {H : Hp} : ∀ {xs : List V} {ts : List Tr}, PL K w H xs ts → (cmpsL ts).length ≤ 16 * ts.length := by
  intro xs ts h
  have key : ∀ i, i ≤ ts.length → (cmpsL (ts.take i)).length ≤ 16 * i := fun i => by
    induction i with
    | zero => intro _; rw [List.take_zero]; exact Nat.zero_le _
    | succ i ih =>
      intro hi
      have hx : xs[i]? = some (xs[i]'(by rw [h.1]; exact hi)) := List.getElem?_eq_getElem _
      obtain ⟨t, m, ht, p, hm⟩ := h.2 i _ hx
      have := p.few
      have := ih (by omega)
      rw [cmpsL_take ht, List.length_append]
      omega
  have := key ts.length (Nat.le_refl _)
  rw [List.take_length] at this
  exact this
theorem ok_numbers_of (T : Txt K mg) : FnOk P w K mg base CX0 21 T.a_numbers_of T.d_numbers_of ["predicates", "column"] (spNumbers K) := by
  refine T.F_numbers_of.ok sc_numbers_of (fun vs H Q E h => ?_) (fun cdv A outer s H vs Q E hr h => ⟨_, (pss_cons (ps_setLc2 (i := 2) (own := [("predicate", 3), ("node", 4)]) (vs1 := [4]) (g := gName 3) (g1 := gName 4) (tt := tYes) (tt1 := tYes) rfl sc_numbers_of.nd rfl rfl (sw_true rfl rfl rfl (by decide +kernel)) (pi_list (pv 0)) (blkOk_by (own := [("predicate", 3), ("node", 4)]) (N := N_numbers_of) (sc := defScope s_numbers_of) (by decide +kernel)) (by decide) (fun _ _ _ _ _ => pg_name (i := 3) sc_numbers_of.nd rfl (Or.inl rfl)) (fun _ _ _ _ _ => pts_nil) (fun _ _ _ _ _ => (pi_listB (pe_call (ok_comparisons_of T (16)) (hr.mono (by decide)) (by rfl) T.g_comparisons_of T.F_comparisons_of.kp T.b_comparisons_of .nil pass0 (pa_cons (pv 3) pa_nil)))) (fun _ _ _ _ _ => pg_name (i := 4) sc_numbers_of.nd rfl (Or.inl rfl)) (fun _ _ _ _ _ => pts_nil) (fun _ _ _ _ _ => (pv 4)))
      (pss_one (ps_ret (pe_callB (cr_sortedSet rfl) (by rfl) T.z_sorted (by decide +kernel) (pa_cons (pe_scI (own := [("node", 4)]) (g := gName 4) rfl sc_numbers_of.nd (pi_list (pv 2)) (blkOk_by (own := [("node", 4)]) (N := N_numbers_of) (sc := defScope s_numbers_of) (by decide +kernel)) (fun _ _ _ _ _ => pg_name (i := 4) sc_numbers_of.nd rfl (Or.inl rfl)) (fun _ _ _ _ _ => pts_one (pt_cmpR op_eq (pe_ix ix_tupB (pv 4) pe_int (fun _ _ => rfl)) (pv 1) (nomark _))) (fun _ _ _ _ _ => (pe_ix ix_tupB (pv 4) pe_int (fun _ _ => rfl)))) pa_nil))))), ?_⟩)
  · first | (obtain ⟨rfl, _⟩ := h; rfl) | (obtain ⟨_, rfl, _⟩ := h; rfl) | (obtain ⟨_, _, rfl, _⟩ := h; rfl) | (obtain ⟨_, _, _, rfl, _⟩ := h; rfl) | (obtain ⟨_, _, _, _, rfl, _⟩ := h; rfl) | (obtain ⟨_, _, _, _, _, rfl, _⟩ := h; rfl) | (obtain ⟨_, _, _, _, _, _, rfl, _⟩ := h; rfl) | (obtain ⟨_, _, _, _, _, _, _, rfl, _⟩ := h; rfl) | (obtain ⟨_, _, _, _, _, _, _, _, rfl, _⟩ := h; rfl) | (obtain ⟨_, _, _, _, _, _, _, _, _, rfl, _⟩ := h; rfl) | (obtain ⟨_, _, _, _, _, _, _, _, _, _, rfl, _⟩ := h; rfl) | (obtain ⟨_, _, _, _, _, _, _, _, _, _, _, rfl, _⟩ := h; rfl) | (obtain ⟨_, _, _, _, _, _, _, _, _, _, _, _, rfl, _⟩ := h; rfl) | (obtain ⟨_, _, _, _, _, _, _, _, _, _, _, _, _, rfl, _⟩ := h; rfl) | (obtain ⟨_, _, _, _, _, _, _, _, _, _, _, _, _, _, rfl, _⟩ := h; rfl)
  · obtain ⟨a, xs, ts, wd, c, us, rfl, hS, pl, h5, hus, hin, k⟩ := h
    try dsimp only [cxOf, Cx.nox, Cx.wish]
    refine st_of (σ := [some _, some _, none, none, none]) rfl ?_
    walk_at "rd"
    refine c_lc2 ?_
    walk_at "rd"
    have few := cmpsL_few pl
    refine ⟨⟨_, hS⟩, fun D hD => walkL (xs := xs) (fun i G => Same H G ∧ ∃ ys, G D = some (.lst ys) ∧ CL K G ys (cmpsL (ts.take i))) ?_ ?_ ?_ ?_⟩
    · exact ⟨same_new (Same.refl _) hD, [], upd_same, .nil⟩
    · rintro i G _ ⟨sG, _⟩
      exact seq' hS sG
    · rintro i y G hi ⟨sG, acc, gD, cl⟩
      obtain ⟨t', k', hk', p', le⟩ := pl.2 i y hi
      walk_at "rd"
      refine ⟨rfl, ?_⟩
      walk_at "rd"
      refine ⟨y, t', wd, k', rfl, p'.keep (.same sG), le, by decide, fun r2 ys G2 hr2 s2 g2 cl2 => ?_⟩
      have gD2 := s2 _ _ gD
      have n2 : D ≠ r2 := ne_of_none gD hr2
      have sz1 := cl.len
      have sz2 := cl2.len
      have sz3 := p'.few
      have sz4 := cmpsL_le ts i
      walk_at "rd"
      refine ⟨⟨_, sql g2⟩, walkL (xs := ys) (fun j G3 => Same H G3 ∧ G3 r2 = some (.lst ys) ∧ G3 D = some (.lst (acc ++ ys.take j)) ∧ Tp G2 G3) ?_ ?_ ?_ ?_⟩
      · exact ⟨sG.trans s2, g2, by rw [List.take_zero, List.append_nil]; exact gD2, Tp.refl _⟩
      · rintro j G3 _ ⟨_, g3, _⟩
        exact sql g3
      · rintro j z G3 hj ⟨s3, g3, gD3, tp3⟩
        obtain ⟨hj1, hz⟩ := List.getElem?_eq_some_iff.mp hj
        walk_at "rd"
        refine ⟨rfl, ?_⟩
        walk_at "rd"
        refine ⟨_, gD3, smallLt (by rw [List.length_append, List.length_take]; omega), same_mut s3 hD, (upd_ne n2.symm).trans g3, ?_, tp3.lst gD3⟩
        rw [upd_same, List.take_succ_eq_append_getElem hj1, hz, List.append_assoc]
      · rintro G3 ⟨s3, g3, gD3, tp3⟩
        rw [List.take_length] at gD3
        refine ⟨s3, acc ++ ys, gD3, ?_⟩
        rw [cmpsL_take hk']
        exact ((cl.keep (.same s2)).app cl2).keep tp3
    · rintro G ⟨sG, ys, gD, cl⟩
      rw [pl.1, List.take_length] at cl
      have hyl := cl.len
      walk_at "rd"
      refine ⟨⟨_, sql gD⟩, fun D2 hD2 => walkL (xs := ys) (fun i G2 => Same G G2 ∧ ∃ ds : List Int, ds.Nodup ∧ (∀ z, z ∈ ds ↔ ∃ s, (s, c, z) ∈ (cmpsL ts).take i) ∧ G2 D2 = some (SetO w D2 (fun j => decide (j ∈ ds)) ds.length)) ?_ ?_ ?_ ?_⟩
      · refine ⟨same_new (Same.refl _) hD2, [], List.nodup_nil, fun z => by simp, ?_⟩
        rw [upd_same]
        congr 1
      · rintro i G2 _ ⟨s2, _⟩
        exact sql (s2 _ _ gD)
      · rintro i y G2 hi ⟨s2, ds, nd, hm, g2⟩
        obtain ⟨ad, s', c', n', rfl, hcs, hq⟩ := cl.get hi
        have hq2 := same_tup s2 hq
        obtain ⟨hi1, hc1⟩ := List.getElem?_eq_some_iff.mp hcs
        have hT : (cmpsL ts).take (i + 1) = (cmpsL ts).take i ++ [(s', c', n')] := by rw [List.take_succ_eq_append_getElem hi1, hc1]
        have hus2 : ∀ z ∈ ds, z ∈ us := fun z hz => by
          obtain ⟨s3, h3⟩ := (hm z).mp hz
          exact hin s3 z (List.mem_of_mem_take h3)
        have hlen := nodup_le nd hus2
        walk_at "rd"
        refine ⟨rfl, ?_⟩
        walk_at "rd"
        refine i_d (fun e => ?_) (fun e => ?_)
        · have e : c' = c := by omega
          subst e
          walk_at "rd"
          refine ⟨n', _, _, rfl, g2, by unfold scanBound; omega, same_mut s2 hD2, ?_⟩
          by_cases hn : n' ∈ ds
          · refine ⟨ds, nd, fun z => ?_, ?_⟩
            · rw [hm z, hT]
              constructor
              · rintro ⟨s3, h3⟩
                exact ⟨s3, List.mem_append_left _ h3⟩
              · rintro ⟨s3, h3⟩
                rcases List.mem_append.mp h3 with h3 | h3
                · exact ⟨s3, h3⟩
                · rw [List.mem_singleton] at h3
                  obtain ⟨rfl, _, rfl⟩ := (by simpa using h3 : s3 = s' ∧ True ∧ z = n')
                  exact (hm z).mp hn
            · rw [upd_same, if_pos (decide_eq_true hn)]
              congr 1
              congr 1
              funext j
              by_cases hj : j = n'
              · subst hj
                simp [hn]
              · simp [hj]
          · refine ⟨ds ++ [n'], ?_, fun z => ?_, ?_⟩
            · rw [List.nodup_append]
              refine ⟨nd, by simp, fun a ha b hb => ?_⟩
              rw [List.mem_singleton] at hb
              subst hb
              intro e2
              subst e2
              exact hn ha
            · rw [List.mem_append, hm z, hT, List.mem_singleton]
              constructor
              · rintro (⟨s3, h3⟩ | rfl)
                · exact ⟨s3, List.mem_append_left _ h3⟩
                · exact ⟨s', List.mem_append_right _ (List.mem_singleton.mpr rfl)⟩
              · rintro ⟨s3, h3⟩
                rcases List.mem_append.mp h3 with h3 | h3
                · exact .inl ⟨s3, h3⟩
                · rw [List.mem_singleton] at h3
                  exact .inr (by simp at h3; exact h3.2)
            · rw [upd_same, if_neg (by rw [decide_eq_true_eq]; exact hn), List.length_append]
              congr 1
              congr 1
              funext j
              simp
        · have e : c' ≠ c := fun z => e (by rw [z])
          walk_at "rd"
          refine ⟨s2, ds, nd, fun z => ?_, g2⟩
          rw [hm z, hT]
          constructor
          · rintro ⟨s3, h3⟩
            exact ⟨s3, List.mem_append_left _ h3⟩
          · rintro ⟨s3, h3⟩
            rcases List.mem_append.mp h3 with h3 | h3
            · exact ⟨s3, h3⟩
            · rw [List.mem_singleton] at h3
              simp at h3
              exact absurd h3.2.1.symm e
      · rintro G2 ⟨s2, ds, nd, hm, g2⟩
        rw [hyl, List.take_length] at hm
        have hlen := nodup_le nd fun z hz => let ⟨s3, h3⟩ := (hm z).mp hz; hin s3 z h3
        walk_at "rd"
        refine ⟨D2, _, _, rfl, g2, by omega, fun zs q za zm zl hq => ?_⟩
        walk_at "rd"
        exact k q zs _ (free' hq (sG.trans s2)) (same_new (sG.trans s2) hq) upd_same za (fun z => by rw [zm z, ← hm z]; simp)
end

/-! ### the law's recipes -/
def Few (ss : List Stp) : Prop := ∀ c : Nat, ∃ us : List Int, us.length ≤ 8 ∧ ∀ s n, (s, c, n) ∈ scm ss → n ∈ us
theorem few_of {S p : Addr} {H H' : Hp} {qs : List Addr} {xs : List V} {ss : List Stp} (pl : Pool S H p qs) (sp : Stps qs.length H' xs ss) (fr : Frm (pn H qs) ss) : Few ss := fun c => by
  by_cases hc : c < qs.length
  · obtain ⟨ms, nm, e⟩ := pn_at pl hc
    refine ⟨ms, nm.len, fun s n h => ?_⟩
    have := fr _ (mem_scm.mp h)
    rw [← e]
    exact this
  · refine ⟨[], Nat.zero_le _, fun s n h => ?_⟩
    have := (sp.ok _ (mem_scm.mp h)).2.1
    omega
structure Rc (S R : Addr) (w : Nat) (H : Hp) (x : V) (ss : List Stp) : Prop where
  at_ : ∃ (q : Addr) (xs : List V), x = .ref q ∧ q ≠ S ∧ q ≠ R ∧ H q = some (.lst xs) ∧ Stps w H xs ss
  va : Valid ss
  one : (exs ss).length = 1
  len : ss.length ≤ 16
  few : Few ss
theorem Rc.ex {S R L : Addr} {ns : List Int} {w : Nat} {H H' : Hp} {x : V} {ss : List Stp} (h : Rc S R w H x ss) (st : Strm S L ns H) (e : Ex S H H') : Rc S R w H' x ss := by
  obtain ⟨q, xs, rfl, n, n2, hq, sp⟩ := h.at_
  exact ⟨⟨q, xs, rfl, n, n2, e _ _ n hq, sp.keep (st.tp e)⟩, h.va, h.one, h.len, h.few⟩
theorem Rc.same {S R : Addr} {w : Nat} {H H' : Hp} {x : V} {ss : List Stp} (h : Rc S R w H x ss) (s : Same H H') : Rc S R w H' x ss := by
  obtain ⟨q, xs, rfl, n, n2, hq, sp⟩ := h.at_
  exact ⟨⟨q, xs, rfl, n, n2, s _ _ hq, sp.keep (.same s)⟩, h.va, h.one, h.len, h.few⟩
theorem Rc.upd {S R : Addr} {w : Nat} {H : Hp} {x : V} {ss : List Stp} {zs : List V} {o : HO} (h : Rc S R w H x ss) (hr : H R = some (.lst zs)) : Rc S R w (upd H R o) x ss := by
  obtain ⟨q, xs, rfl, n, n2, hq, sp⟩ := h.at_
  exact ⟨⟨q, xs, rfl, n, n2, (upd_ne n2).trans hq, sp.keep (.lst (.refl _) hr)⟩, h.va, h.one, h.len, h.few⟩
inductive RL (S R : Addr) (w : Nat) (H : Hp) : List V → List (List Stp) → Prop where
  | nil : RL S R w H [] []
  | cons {x : V} {ss : List Stp} {xs : List V} {sss : List (List Stp)} (h : Rc S R w H x ss) (t : RL S R w H xs sss) : RL S R w H (x :: xs) (ss :: sss)
theorem RL.ex {S R L : Addr} {ns : List Int} {w : Nat} {H H' : Hp} {xs : List V} {sss : List (List Stp)} (h : RL S R w H xs sss) (st : Strm S L ns H) (e : Ex S H H') : RL S R w H' xs sss := by
  induction h with
  | nil => exact .nil
  | cons h _ ih => exact .cons (h.ex st e) ih
theorem RL.same {S R : Addr} {w : Nat} {H H' : Hp} {xs : List V} {sss : List (List Stp)} (h : RL S R w H xs sss) (s : Same H H') : RL S R w H' xs sss := by
  induction h with
  | nil => exact .nil
  | cons h _ ih => exact .cons (h.same s) ih
theorem RL.upd {S R : Addr} {w : Nat} {H : Hp} {xs : List V} {sss : List (List Stp)} {zs : List V} {o : HO} (h : RL S R w H xs sss) (hr : H R = some (.lst zs)) : RL S R w (upd H R o) xs sss := by
  induction h with
  | nil => exact .nil
  | cons h _ ih => exact .cons (h.upd hr) ih
theorem RL.len {S R : Addr} {w : Nat} {H : Hp} {xs : List V} {sss : List (List Stp)} (h : RL S R w H xs sss) : xs.length = sss.length := by
  induction h with
  | nil => rfl
  | cons _ _ ih => rw [List.length_cons, List.length_cons, ih]
theorem RL.snoc {S R : Addr} {w : Nat} {H : Hp} {xs : List V} {sss : List (List Stp)} {x : V} {ss : List Stp} (h : RL S R w H xs sss) (g : Rc S R w H x ss) : RL S R w H (xs ++ [x]) (sss ++ [ss]) := by
  induction h with
  | nil => exact .cons g .nil
  | cons h _ ih => exact .cons h ih
theorem RL.get {S R : Addr} {w : Nat} {H : Hp} {xs : List V} {sss : List (List Stp)} (h : RL S R w H xs sss) : ∀ {i : Nat} {x : V}, xs[i]? = some x → ∃ ss, sss[i]? = some ss ∧ Rc S R w H x ss := by
  induction h with
  | nil =>
    intro i x hx
    simp at hx
  | cons h _ ih =>
    intro i x hx
    cases i with
    | zero =>
      cases hx
      exact ⟨_, rfl, h⟩
    | succ i => exact ih hx
theorem RL.us {S R : Addr} {w : Nat} {H : Hp} {xs : List V} {sss : List (List Stp)} (h : RL S R w H xs sss) (c : Nat) : ∃ us : List Int, us.length ≤ 8 * sss.length ∧ ∀ s n, (s, c, n) ∈ sss.flatMap scm → n ∈ us := by
  induction h with
  | nil => exact ⟨[], Nat.zero_le _, fun s n h => by simp at h⟩
  | cons h _ ih =>
    obtain ⟨us, a, b⟩ := ih
    obtain ⟨ws, a2, b2⟩ := h.few c
    refine ⟨ws ++ us, by rw [List.length_append, List.length_cons]; omega, fun s n h => ?_⟩
    rw [List.flatMap_cons] at h
    rcases List.mem_append.mp h with h | h
    · exact List.mem_append_left _ (b2 s n h)
    · exact List.mem_append_right _ (b s n h)
def trof (ss : List Stp) : Tr := (exs ss).headD (.mis 0)
theorem trof_of {ss : List Stp} {t : Tr} (h : exs ss = [t]) : trof ss = t := by
  unfold trof
  rw [h]
  rfl
theorem RL.cmps {S R : Addr} {w : Nat} {H : Hp} {xs : List V} {sss : List (List Stp)} (h : RL S R w H xs sss) : cmpsL (sss.map trof) = sss.flatMap scm := by
  induction h with
  | nil => rfl
  | cons h _ ih =>
    obtain ⟨t, ht⟩ := List.length_eq_one_iff.mp h.one
    rw [List.map_cons, cmpsL, ih, List.flatMap_cons, trof_of ht, cmps_tree h.va ht]
/-- what is built of them -/
inductive BL (K : PySem.W.Frag) (w : Nat) (H : Hp) : List V → List Tr → Prop where
  | nil : BL K w H [] []
  | cons {x : V} {t : Tr} {m : Nat} {xs : List V} {ts : List Tr} (p : PTr K w H x t m) (hm : m ≤ 16) (r : BL K w H xs ts) : BL K w H (x :: xs) (t :: ts)
theorem BL.keep {K : PySem.W.Frag} {w : Nat} {H H' : Hp} {xs : List V} {ts : List Tr} (h : BL K w H xs ts) (e : Tp H H') : BL K w H' xs ts := by
  induction h with
  | nil => exact .nil
  | cons p hm _ ih => exact .cons (p.keep e) hm ih
theorem BL.snoc {K : PySem.W.Frag} {w : Nat} {H : Hp} {xs : List V} {ts : List Tr} {x : V} {t : Tr} {m : Nat} (h : BL K w H xs ts) (p : PTr K w H x t m) (hm : m ≤ 16) : BL K w H (xs ++ [x]) (ts ++ [t]) := by
  induction h with
  | nil => exact .cons p hm .nil
  | cons p1 h1 _ ih => exact .cons p1 h1 ih
theorem BL.pl {K : PySem.W.Frag} {w : Nat} {H : Hp} {xs : List V} {ts : List Tr} (h : BL K w H xs ts) : PL K w H xs ts := by
  induction h with
  | nil => exact ⟨rfl, fun i x hx => by simp at hx⟩
  | cons p hm _ ih =>
    refine ⟨by rw [List.length_cons, List.length_cons, ih.1], fun i x hx => ?_⟩
    cases i with
    | zero =>
      cases hx
      exact ⟨_, _, rfl, p, hm⟩
    | succ i => exact ih.2 i x hx
theorem PTrs.inv_cons {K : PySem.W.Frag} {w : Nat} {H : Hp} {vs : List V} {t : Tr} {ts : List Tr} {m : Nat} (h : PTrs K w H vs (t :: ts) m) : ∃ v us m1 m2, vs = v :: us ∧ PTr K w H v t m1 ∧ PTrs K w H us ts m2 := by
  cases h with
  | cons p r => exact ⟨_, _, _, _, rfl, p, r⟩
theorem PTr.al {K : PySem.W.Frag} {w : Nat} {H : Hp} {v : V} {t : Tr} {m : Nat} (h : PTr K w H v t m) : ∀ {v' : V} {m' : Nat}, PTr K w H v' t m' → ∃ n, n ≤ 5 * m ∧ Al K H v v' n :=
  h.rec (motive_1 := fun v t m _ => ∀ {v' : V} {m' : Nat}, PTr K w H v' t m' → ∃ n, n ≤ 5 * m ∧ Al K H v v' n) (motive_2 := fun vs ts m _ => ∀ {vs' : List V} {m' : Nat}, PTrs K w H vs' ts m' → ∃ n, n ≤ 5 * m ∧ Als K H vs vs' n)
    (fun _ _ _ _ h v' m' g => by
      cases g with
      | cmp _ _ _ _ h2 => exact ⟨4, by omega, .tup h h2 (.cons (n := 1) (m := 2) (.str _) (.cons (n := 1) (m := 1) (.int _) (.cons (n := 1) (m := 0) (.int _) .nil)))⟩)
    (fun _ h v' m' g => by
      cases g with
      | mis _ h2 => exact ⟨3, by omega, .tup h h2 (.cons (n := 1) (m := 1) (.str _) (.cons (n := 1) (m := 0) (.int _) .nil))⟩)
    (fun h _ ih v' m' g => by
      cases g with
      | neg h2 p2 =>
        obtain ⟨n, a, b⟩ := ih p2
        exact ⟨1 + (n + 0) + 1, by omega, .tup h h2 (.cons (.str _) (.cons b .nil))⟩)
    (fun h _ ih v' m' g => by
      cases g with
      | unt h2 p2 =>
        obtain ⟨n, a, b⟩ := ih p2
        exact ⟨1 + (n + 0) + 1, by omega, .tup h h2 (.cons (.str _) (.cons b .nil))⟩)
    (fun h _ ih v' m' g => by
      cases g with
      | jn h2 p2 =>
        obtain ⟨n, a, b⟩ := ih p2
        exact ⟨1 + n + 1, by omega, .tup h h2 (.cons (.str _) b)⟩)
    (fun {vs' m'} g => by
      cases g
      exact ⟨0, by omega, .nil⟩)
    (fun _ _ ih1 ih2 vs' m' g => by
      obtain ⟨v, us, m1, m2, rfl, p, r⟩ := g.inv_cons
      obtain ⟨n1, a1, b1⟩ := ih1 p
      obtain ⟨n2, a2, b2⟩ := ih2 r
      exact ⟨n1 + n2, by omega, .cons b1 b2⟩)
theorem BL.al {K : PySem.W.Frag} {w : Nat} {H : Hp} {xs : List V} {ts : List Tr} (h : BL K w H xs ts) : ∀ {ys : List V}, BL K w H ys ts → ∃ n, n ≤ 80 * ts.length ∧ Als K H xs ys n := by
  induction h with
  | nil =>
    intro ys g
    cases g
    exact ⟨0, by omega, .nil⟩
  | cons p hm _ ih =>
    intro ys g
    cases g with
    | cons p2 _ r =>
      obtain ⟨n1, a1, b1⟩ := p.al p2
      obtain ⟨n2, a2, b2⟩ := ih r
      exact ⟨n1 + n2, by rw [List.length_cons]; omega, .cons b1 b2⟩
theorem scm_take {ss : List Stp} {i : Nat} {s : Stp} (h : ss[i]? = some s) : scm (ss.take (i + 1)) = scm (ss.take i) ++ scm1 s := by
  rw [List.take_add_one, h, scm_app]
  congr 1
  cases s <;> rfl
def spCompared (K : PySem.W.Frag) : Sp := fun vs H Q _ => ∃ (a S R : Addr) (xs : List V) (sss : List (List Stp)) (w c : Nat), vs = [.ref a, .int (c : Int)] ∧ SqL K H a xs ∧ RL S R w H xs sss ∧ sss.length ≤ 5 ∧
  ∀ p zs H', H p = none → Same H H' → H' p = some (.lst (zs.map V.int)) → Asc zs → (∀ z, z ∈ zs ↔ ∃ s, (s, c, z) ∈ sss.flatMap scm) → Q (.ref p) H'
section
variable {P : Program} {w : World} {K : PySem.W.Frag} {mg : Str → Option Value} {base : Heap}
theorem ok_compared_with (T : Txt K mg) : FnOk P w K mg base CX0 1 T.a_compared_with T.d_compared_with ["_law_recipes", "_law_c"] (spCompared K) := by
  refine T.F_compared_with.ok sc__law_compared_with (fun vs H Q E h => ?_) (fun cdv A outer s H vs Q E hr h => ⟨_, (pss_cons (ps_set (i := 2) sc__law_compared_with.nd rfl (.inl rfl) (pe_lst pa_nil))
      (pss_cons (ps_for PassesOwn.never rfl (pi_list (pv 0)) (pg_name (i := 3) sc__law_compared_with.nd rfl (.inl rfl))
      (pss_one (ps_for PassesOwn.never rfl (pi_list (pv 3)) (pg_name (i := 4) sc__law_compared_with.nd rfl (.inl rfl))
      (pss_one (ps_if (PW.pt (pw_and (pt_cmpR op_eq (pe_callB call_len_seq (by rfl) T.z_len PySem.boot_len (pa_cons (pv 4) pa_nil)) pe_int (nomark _)) (pw_and (pt_cmpR op_eq (pe_ix ix_tup (pv 4) pe_int (fun _ _ => rfl)) (pv 1) (nomark _)) (pw_and1 (pt_cmpR op_notIn_seq (pe_ix ix_tup (pv 4) pe_int (fun _ _ => rfl)) (pv 2) (by rfl))))))
      (pss_one (ps_expr (pe_bm PySem.F.plainAttrs_list PySem.F.slot_list_append PySem.F.type_list_append mt_append (pv 2) (pa_cons (pe_ix ix_tup (pv 4) pe_int (fun _ _ => rfl)) pa_nil))))
      pss_nil)))))
      (pss_one (ps_ret (pe_callB cr_sortedI (by rfl) T.z_sorted (by decide +kernel) (pa_cons (pv 2) pa_nil)))))), ?_⟩)
  · first | (obtain ⟨rfl, _⟩ := h; rfl) | (obtain ⟨_, rfl, _⟩ := h; rfl) | (obtain ⟨_, _, rfl, _⟩ := h; rfl) | (obtain ⟨_, _, _, rfl, _⟩ := h; rfl) | (obtain ⟨_, _, _, _, rfl, _⟩ := h; rfl) | (obtain ⟨_, _, _, _, _, rfl, _⟩ := h; rfl) | (obtain ⟨_, _, _, _, _, _, rfl, _⟩ := h; rfl) | (obtain ⟨_, _, _, _, _, _, _, rfl, _⟩ := h; rfl) | (obtain ⟨_, _, _, _, _, _, _, _, rfl, _⟩ := h; rfl) | (obtain ⟨_, _, _, _, _, _, _, _, _, rfl, _⟩ := h; rfl) | (obtain ⟨_, _, _, _, _, _, _, _, _, _, rfl, _⟩ := h; rfl) | (obtain ⟨_, _, _, _, _, _, _, _, _, _, _, rfl, _⟩ := h; rfl) | (obtain ⟨_, _, _, _, _, _, _, _, _, _, _, _, rfl, _⟩ := h; rfl) | (obtain ⟨_, _, _, _, _, _, _, _, _, _, _, _, _, rfl, _⟩ := h; rfl) | (obtain ⟨_, _, _, _, _, _, _, _, _, _, _, _, _, _, rfl, _⟩ := h; rfl)
  · obtain ⟨a, S, R, xs, sss, wd, c, rfl, hS, rl, h5, k⟩ := h
    try dsimp only [cxOf, Cx.nox, Cx.wish]
    refine st_of (σ := [some _, some _, none, none, none]) rfl ?_
    walk_at "rd"
    intro f hf
    have sf : Same H (upd H f (.lst [])) := by walk_at "sm"
    walk_at "rd"
    with_reducible refine c_forList ?_
    walk_at "rd"
    refine ⟨⟨_, seq' hS sf⟩, for_list (xs := xs) (fun i σ G => ∃ (fs : List Int) (e3 e4 : Option V), σ = [some (.ref a), some (.int (c : Int)), some (.ref f), e3, e4] ∧ Same H G ∧ G f = some (.lst (fs.map V.int)) ∧ fs.Nodup ∧ fs.length ≤ 16 * i ∧ ∀ z, z ∈ fs ↔ ∃ s, (s, c, z) ∈ (sss.take i).flatMap scm) ?_ ?_ ?_ ?_⟩
    · exact ⟨[], _, _, rfl, sf, upd_same, List.nodup_nil, Nat.zero_le _, fun z => by simp⟩
    · rintro i σ G _ ⟨fs, e3, e4, rfl, sG, _⟩
      exact seq' hS sG
    · rintro i x σ G hi ⟨fs, e3, e4, rfl, sG, gf, nd, lf, hm⟩
      obtain ⟨ss, hss, rc⟩ := rl.get hi
      have rcG := rc.same sG
      obtain ⟨q, ys, rfl, _, _, hq, sp⟩ := rcG.at_
      have nqf : q ≠ f := fun e => by
        obtain ⟨q2, ys2, e2, _, _, hq2, _⟩ := rc.at_
        cases e2
        rw [e, hf] at hq2
        cases hq2
      have hil : i < 5 := by
        have := (List.getElem?_eq_some_iff.mp hss).1
        omega
      have s16 := rc.len
      walk_at "rd"
      with_reducible refine c_forList ?_
      walk_at "rd"
      refine ⟨⟨_, sql hq⟩, for_list (xs := ys) (fun j σ G2 => ∃ (fs : List Int) (e4 : Option V), σ = [some (.ref a), some (.int (c : Int)), some (.ref f), some (.ref q), e4] ∧ Same H G2 ∧ G2 q = some (.lst ys) ∧ Tp G G2 ∧ G2 f = some (.lst (fs.map V.int)) ∧ fs.Nodup ∧ fs.length ≤ 16 * i + j ∧ ∀ z, z ∈ fs ↔ ∃ s, (s, c, z) ∈ (sss.take i).flatMap scm ++ scm (ss.take j)) ?_ ?_ ?_ ?_⟩
      · exact ⟨fs, _, rfl, sG, hq, Tp.refl _, gf, nd, lf, fun z => by rw [hm z, List.take_zero]; simp [scm]⟩
      · rintro j σ G2 _ ⟨fs, e4, rfl, _, gq, _⟩
        exact sql gq
      · rintro j y σ G2 hj ⟨fs, e4, rfl, sG2, gq, tp, gf, nd, lf, hm⟩
        obtain ⟨st, ad, hst, rfl, had, ok⟩ := (sp.keep tp).get hj
        have hjl : j < 16 := by
          have := (List.getElem?_eq_some_iff.mp hst).1
          omega
        have hT := scm_take hst
        have stay : scm1 st = [] → ∃ (fs : List Int) (e4 : Option V), [some (V.ref a), some (V.int (c : Int)), some (V.ref f), some (V.ref q), some (V.ref ad)] = [some (.ref a), some (.int (c : Int)), some (.ref f), some (.ref q), e4] ∧ Same H G2 ∧ G2 q = some (.lst ys) ∧ Tp G G2 ∧ G2 f = some (.lst (fs.map V.int)) ∧ fs.Nodup ∧ fs.length ≤ 16 * i + (j + 1) ∧ ∀ z, z ∈ fs ↔ ∃ s, (s, c, z) ∈ (sss.take i).flatMap scm ++ scm (ss.take (j + 1)) := fun e =>
          ⟨fs, _, rfl, sG2, gq, tp, gf, nd, by omega, fun z => by rw [hm z, hT, e, List.append_nil]⟩
        cases st with
        | cmp s c' n =>
          have had : G2 ad = some (.tup [.str s, .int (c' : Int), .int n]) := had
          have hT : scm (ss.take (j + 1)) = scm (ss.take j) ++ [(s, c', n)] := hT
          have hsz : (fs.map V.int).length < sizeLine := smallLt (by rw [List.length_map]; omega)
          walk_at "rd"
          walk_at "tf"
          walk_at "rd"
          refine i_d (fun e => ?_) (fun e => ?_)
          · have e : c' = c := by omega
            subst e
            walk_at "rd"
            refine r_inL (sql gf) rfl (flat_int fs) ?_
            rw [in_int, if_pos rfl]
            walk_at "rd"
            refine i_n (fun hn => ?_) (fun hn => ?_)
            · walk_at "rd"
              refine ⟨fs ++ [n], _, rfl, same_mut sG2 hf, (upd_ne nqf).trans gq, tp.lst gf, by rw [upd_same, List.map_append]; rfl, ?_, by rw [List.length_append, List.length_singleton]; omega, fun z => ?_⟩
              · rw [List.nodup_append]
                refine ⟨nd, by simp, fun a ha b hb => ?_⟩
                rw [List.mem_singleton] at hb
                subst hb
                intro e2
                subst e2
                exact hn ha
              · rw [List.mem_append, hm z, hT, List.mem_singleton, ← List.append_assoc]
                constructor
                · rintro (⟨s3, h3⟩ | rfl)
                  · exact ⟨s3, List.mem_append_left _ h3⟩
                  · exact ⟨s, List.mem_append_right _ (List.mem_singleton.mpr rfl)⟩
                · rintro ⟨s3, h3⟩
                  rcases List.mem_append.mp h3 with h3 | h3
                  · exact .inl ⟨s3, h3⟩
                  · rw [List.mem_singleton] at h3
                    exact .inr (by simp at h3; exact h3.2)
            · walk_at "rd"
              refine ⟨fs, _, rfl, sG2, gq, tp, gf, nd, by omega, fun z => ?_⟩
              rw [hT, ← List.append_assoc]
              constructor
              · intro hz
                obtain ⟨s3, h3⟩ := (hm z).mp hz
                exact ⟨s3, List.mem_append_left _ h3⟩
              · rintro ⟨s3, h3⟩
                rcases List.mem_append.mp h3 with h3 | h3
                · exact (hm z).mpr ⟨s3, h3⟩
                · rw [List.mem_singleton] at h3
                  have e3 : z = n := by simp at h3; exact h3.2
                  exact e3 ▸ hn
          · have e : c' ≠ c := fun z => e (by rw [z])
            walk_at "rd"
            refine ⟨fs, _, rfl, sG2, gq, tp, gf, nd, by omega, fun z => ?_⟩
            rw [hm z, hT, ← List.append_assoc]
            constructor
            · rintro ⟨s3, h3⟩
              exact ⟨s3, List.mem_append_left _ h3⟩
            · rintro ⟨s3, h3⟩
              rcases List.mem_append.mp h3 with h3 | h3
              · exact ⟨s3, h3⟩
              · rw [List.mem_singleton] at h3
                simp at h3
                exact absurd h3.2.1.symm e
        | mis c' =>
          have had : G2 ad = some (.tup [.str "missing", .int (c' : Int)]) := had
          walk_at "rd"
          walk_at "tf"
          walk_at "rd"
          exact stay rfl
        | neg =>
          have had : G2 ad = some (.tup [.str "negation"]) := had
          walk_at "rd"
          walk_at "tf"
          walk_at "rd"
          exact stay rfl
        | unt =>
          have had : G2 ad = some (.tup [.str "untrue"]) := had
          walk_at "rd"
          walk_at "tf"
          walk_at "rd"
          exact stay rfl
        | jn e2 k2 =>
          have had : G2 ad = some (.tup [.str (jw e2), .int (k2 : Int)]) := had
          walk_at "rd"
          walk_at "tf"
          walk_at "rd"
          exact stay rfl
      · rintro σ G2 ⟨fs, e4, rfl, sG2, gq, tp, gf, nd, lf, hm⟩
        have hyl : ys.length = ss.length := sp.len
        rw [hyl, List.take_length] at hm
        refine ⟨fs, _, _, rfl, sG2, gf, nd, by omega, fun z => ?_⟩
        rw [hm z, List.take_add_one, hss, List.flatMap_append]
        simp
    · rintro σ G ⟨fs, e3, e4, rfl, sG, gf, nd, lf, hm⟩
      rw [rl.len, List.take_length] at hm
      walk_at "rd"
      refine ⟨f, fs, rfl, sql gf, fun zs p hp hs hn => ?_⟩
      walk_at "rd"
      have za : Asc zs := (List.Pairwise.and hs (hp.nodup_iff.mpr nd)).imp fun ⟨u, v⟩ => by omega
      exact k p zs _ (free' hn sG) (same_new sG hn) upd_same za (fun z => by rw [hp.mem_iff, hm z])
end

def spLaw (K : PySem.W.Frag) : Sp := fun vs H Q _ => ∃ (a : Addr) (ns : List Int), vs = [.ref a] ∧ SqL K H a (ns.map V.int) ∧ ns.length ≤ 63 ∧ ∀ H', Q (.bl true) H'
section
variable {P : Program} {w : World} {K : PySem.W.Frag} {mg : Str → Option Value} {base : Heap}
theorem ok_law {f : Addr} {fd : FuncData} (F : Fun K "law" "law" s_law f fd) (T : Txt K mg) : FnOk P w K mg base CX0 22 f fd ["_law_script"] (spLaw K) := by
  refine F.ok sc_law (fun vs H Q E h => ?_) (fun cdv A outer s H vs Q E hr h => ⟨_, (pss_cons (ps_set (i := 1) sc_law.nd rfl (.inl rfl) (pe_call (ok_stream T) (hr.mono (by decide)) (by rfl) T.g_stream T.F_stream.kp T.b_stream .nil pass0 (pa_cons (pv 0) pa_nil)))
      (pss_cons (ps_set (i := 2) sc_law.nd rfl (.inl rfl) (pe_op op_add pe_int (pe_call (ok_draw T) (hr.mono (by decide)) (by rfl) T.g_draw T.F_draw.kp T.b_draw .nil pass0 (pa_cons (pv 1) (pa_cons pe_int pa_nil)))))
      (pss_cons (ps_set (i := 3) sc_law.nd rfl (.inl rfl) (pe_lst pa_nil))
      (pss_cons (ps_for PassesOwn.never rfl (pi_range1 (by rfl) T.z_range (pa_cons (pe_call (ok_draw T) (hr.mono (by decide)) (by rfl) T.g_draw T.F_draw.kp T.b_draw .nil pass0 (pa_cons (pv 1) (pa_cons pe_int pa_nil))) pa_nil)) (pg_name (i := 4) sc_law.nd rfl (.inl rfl))
      (pss_cons (ps_set (i := 5) sc_law.nd rfl (.inl rfl) (pe_call (ok_pool T) (hr.mono (by decide)) (by rfl) T.g_pool T.F_pool.kp T.b_pool .nil pass0 (pa_cons (pv 1) (pa_cons (pv 2) pa_nil))))
      (pss_one (ps_expr (pe_bm PySem.F.plainAttrs_list PySem.F.slot_list_append PySem.F.type_list_append mt_append (pv 3) (pa_cons (pe_call (ok_recipe T) (hr.mono (by decide)) (by rfl) T.g_recipe T.F_recipe.kp T.b_recipe .nil pass0 (pa_cons (pv 1) (pa_cons (pv 5) (pa_cons pe_int pa_nil)))) pa_nil))))))
      (pss_cons (ps_setLc (i := 6) (own := [("_law_steps", 11)]) (g := gName 11) (tt := tYes) rfl sc_law.nd rfl rfl (sw_true rfl rfl rfl (by decide +kernel)) (pi_list (pv 3)) (blkOk_by (own := [("_law_steps", 11)]) (N := N_law) (sc := defScope s_law) (by decide +kernel)) (fun _ _ _ _ _ => pg_name (i := 11) sc_law.nd rfl (Or.inl rfl)) (fun _ _ _ _ _ => pts_nil) (fun _ _ _ _ _ => (pe_call (ok_built T) (hr.mono (by decide)) (by rfl) T.g_built T.F_built.kp T.b_built .nil pass0 (pa_cons (pv 11) pa_nil))))
      (pss_cons (ps_setLc (i := 7) (own := [("_law_steps", 11)]) (g := gName 11) (tt := tYes) rfl sc_law.nd rfl rfl (sw_true rfl rfl rfl (by decide +kernel)) (pi_list (pv 3)) (blkOk_by (own := [("_law_steps", 11)]) (N := N_law) (sc := defScope s_law) (by decide +kernel)) (fun _ _ _ _ _ => pg_name (i := 11) sc_law.nd rfl (Or.inl rfl)) (fun _ _ _ _ _ => pts_nil) (fun _ _ _ _ _ => (pe_call (ok_built T) (hr.mono (by decide)) (by rfl) T.g_built T.F_built.kp T.b_built .nil pass0 (pa_cons (pv 11) pa_nil))))
      (pss_cons (ps_for PassesOwn.never rfl (pi_range1 (by rfl) T.z_range (pa_cons pe_int pa_nil)) (pg_name (i := 8) sc_law.nd rfl (.inl rfl))
      (pss_cons (ps_set (i := 9) sc_law.nd rfl (.inl rfl) (pe_call (ok_compared_with T) (hr.mono (by decide)) (by rfl) T.g_compared_with T.F_compared_with.kp T.b_compared_with .nil pass0 (pa_cons (pv 3) (pa_cons (pv 8) pa_nil))))
      (pss_cons (ps_set (i := 10) sc_law.nd rfl (.inl rfl) (pe_call (ok_numbers_of T) (hr.mono (by decide)) (by rfl) T.g_numbers_of T.F_numbers_of.kp T.b_numbers_of .nil pass0 (pa_cons (pv 6) (pa_cons (pv 8) pa_nil))))
      (pss_cons (ps_if (pt_not (pt_val (pe_call (ok_alike T) (hr.mono (by decide)) (by rfl) T.g_alike T.F_alike.kp T.b_alike .nil pass0 (pa_cons (pv 10) (pa_cons (pv 9) pa_nil)))))
      (pss_one (ps_ret pe_bl))
      pss_nil)
      (pss_cons (ps_expr (pe_bm PySem.F.plainAttrs_list PySem.F.slot_list_append PySem.F.type_list_append mt_append (pv 10) (pa_cons pe_int pa_nil)))
      (pss_one (ps_if (pt_not (pt_val (pe_call (ok_alike T) (hr.mono (by decide)) (by rfl) T.g_alike T.F_alike.kp T.b_alike .nil pass0 (pa_cons (pe_call (ok_numbers_of T) (hr.mono (by decide)) (by rfl) T.g_numbers_of T.F_numbers_of.kp T.b_numbers_of .nil pass0 (pa_cons (pv 6) (pa_cons (pv 8) pa_nil))) (pa_cons (pv 9) pa_nil)))))
      (pss_one (ps_ret pe_bl))
      pss_nil)))))))
      (pss_one (ps_ret (pe_call (ok_alike T) (hr.mono (by decide)) (by rfl) T.g_alike T.F_alike.kp T.b_alike .nil pass0 (pa_cons (pv 6) (pa_cons (pv 7) pa_nil)))))))))))), ?_⟩)
  · first | (obtain ⟨rfl, _⟩ := h; rfl) | (obtain ⟨_, rfl, _⟩ := h; rfl) | (obtain ⟨_, _, rfl, _⟩ := h; rfl) | (obtain ⟨_, _, _, rfl, _⟩ := h; rfl) | (obtain ⟨_, _, _, _, rfl, _⟩ := h; rfl) | (obtain ⟨_, _, _, _, _, rfl, _⟩ := h; rfl) | (obtain ⟨_, _, _, _, _, _, rfl, _⟩ := h; rfl) | (obtain ⟨_, _, _, _, _, _, _, rfl, _⟩ := h; rfl) | (obtain ⟨_, _, _, _, _, _, _, _, rfl, _⟩ := h; rfl) | (obtain ⟨_, _, _, _, _, _, _, _, _, rfl, _⟩ := h; rfl) | (obtain ⟨_, _, _, _, _, _, _, _, _, _, rfl, _⟩ := h; rfl) | (obtain ⟨_, _, _, _, _, _, _, _, _, _, _, rfl, _⟩ := h; rfl) | (obtain ⟨_, _, _, _, _, _, _, _, _, _, _, _, rfl, _⟩ := h; rfl) | (obtain ⟨_, _, _, _, _, _, _, _, _, _, _, _, _, rfl, _⟩ := h; rfl) | (obtain ⟨_, _, _, _, _, _, _, _, _, _, _, _, _, _, rfl, _⟩ := h; rfl)
  · obtain ⟨a, ns, rfl, hS, hl, k⟩ := h
    try dsimp only [cxOf, Cx.nox, Cx.wish]
    refine st_of (σ := [some _, none, none, none, none, none, none, none, none, none, none, none]) rfl ?_
    walk_at "rd"
    refine ⟨a, ns, rfl, hS, hl, fun S L H1 _ _ st1 => ?_⟩
    walk_at "rd"
    refine use_draw st1 (by decide) (by decide) (fun w0 H2 w1 w2 x2 st2 => ?_)
    walk_at "rd"
    obtain ⟨wn, hw⟩ : ∃ wn : Nat, 1 + w0 = (wn : Int) := ⟨(1 + w0).toNat, by omega⟩
    rw [hw]
    intro rl hrl
    have nrS := st2.neS hrl
    have nrL := st2.neL hrl
    have st3 := st2.new (o := .lst []) hrl
    have g3 : (upd H2 rl (.lst [])) rl = some (.lst []) := upd_same
    generalize upd H2 rl (.lst []) = H3 at st3 g3 ⊢
    walk_at "rd"
    with_reducible refine c_rng1 ?_
    walk_at "rd"
    refine use_draw st3 (by decide) (by decide) (fun d0 H4 d1 d2 x4 st4 => ?_)
    have g4 := x4 _ _ nrS g3
    walk_at "rd"
    refine ⟨by omega, by omega, for_range (lo := 0) (n := d0.toNat) (fun i σ G => ∃ (xs : List V) (sss : List (List Stp)) (e4 e5 : Option V), σ = [some (.ref a), some (.ref S), some (.int (wn : Int)), some (.ref rl), e4, e5, none, none, none, none, none, none] ∧ Strm S L ns G ∧ G rl = some (.lst xs) ∧ RL S rl wn G xs sss ∧ sss.length = i) ?_ ?_ ?_⟩
    · exact ⟨[], [], _, _, rfl, st4, g4, .nil, rfl⟩
    · rintro i σ G hi ⟨xs, sss, e4, e5, rfl, stG, gr, rls, hlen⟩
      have hxl := rls.len
      have hsz : xs.length < sizeLine := smallLt (by omega)
      walk_at "rd"
      refine ⟨S, L, ns, wn, rfl, stG, by omega, by omega, fun p qs G1 hp x5 st5 pl hql => ?_⟩
      have gr1 := x5 _ _ nrS gr
      walk_at "rd"
      refine ⟨S, L, ns, p, qs, 16, rfl, st5, pl, by omega, by omega, by decide, by decide, fun q ys ss G2 hq x6 st6 gq sp va h1 hle fr => ?_⟩
      have gr2 := x6 _ _ nrS gr1
      have nqr : q ≠ rl := (ne_of_none gr1 hq).symm
      have nqS := st5.neS hq
      have rls2 := (rls.ex stG x5).ex st5 x6
      have rc : Rc S rl wn G2 (.ref q) ss := ⟨⟨q, ys, rfl, nqS, nqr, gq, hql ▸ sp⟩, va, h1, by omega, few_of pl sp fr⟩
      walk_at "rd"
      exact ⟨xs ++ [.ref q], sss ++ [ss], _, _, rfl, st6.upd nrS nrL, upd_same, (rls2.snoc rc).upd gr2, by simp [hlen]⟩
    · rintro σ G ⟨xs, sss, e4, e5, rfl, stG, gr, rls, hlen⟩
      have h5 : sss.length ≤ 5 := by omega
      have hxl := rls.len
      have hone : ∀ ss ∈ sss, (exs ss).length = 1 := fun ss hs => by
        obtain ⟨i, hi, e⟩ := List.getElem_of_mem hs
        obtain ⟨ss2, h2, rc⟩ := rls.get (i := i) (x := xs[i]'(by omega)) (List.getElem?_eq_getElem _)
        rw [List.getElem?_eq_getElem hi] at h2
        rw [← e, Option.some.inj h2]
        exact rc.one
      walk_at "rd"
      with_reducible refine c_lcL ?_
      walk_at "rd"
      refine ⟨⟨_, sql gr⟩, fun D1 hD1 => walkL (xs := xs) (fun i G' => Same G G' ∧ ∃ vs, G' D1 = some (.lst vs) ∧ BL K wn G' vs ((sss.take i).map trof)) ?_ ?_ ?_ ?_⟩
      · exact ⟨same_new (Same.refl _) hD1, [], upd_same, .nil⟩
      · rintro i G' _ ⟨sG, _⟩
        exact sql (sG _ _ gr)
      · rintro i y G' hi ⟨sG, vs, gD, bl⟩
        obtain ⟨ss, hss, rc⟩ := (rls.same sG).get hi
        obtain ⟨q, ys, rfl, _, _, gq, sp⟩ := rc.at_
        have i16 := rc.len
        have hil := (List.getElem?_eq_some_iff.mp hss).1
        have vl := bl.pl.1
        rw [List.length_map, List.length_take] at vl
        walk_at "rd"
        refine ⟨rfl, ?_⟩
        walk_at "rd"
        refine ⟨q, ys, ss, wn, rfl, sql gq, sp, rc.va, rc.one, by omega, fun v t m G2 s2 ht pt hm => ?_⟩
        have gD2 := s2 _ _ gD
        refine ⟨vs, gD2, smallLt (by omega), same_mut (sG.trans s2) hD1, vs ++ [v], upd_same, ?_⟩
        have eT : (sss.take (i + 1)).map trof = (sss.take i).map trof ++ [t] := by
          rw [List.take_add_one, hss, List.map_append, ← trof_of ht]
          rfl
        rw [eT]
        have tp : Tp G2 (upd G2 D1 (.lst (vs ++ [v]))) := .lst (.refl _) gD2
        exact ((bl.keep (.same s2)).keep tp).snoc (pt.keep tp) (by omega)
      rintro G1 ⟨s1, vs, gD1, bl1⟩
      rw [hxl, List.take_length] at bl1
      have gr1 := s1 _ _ gr
      have rls1 := rls.same s1
      walk_at "rd"
      with_reducible refine c_lcL ?_
      walk_at "rd"
      refine ⟨⟨_, sql gr1⟩, fun D2 hD2 => walkL (xs := xs) (fun i G' => Same G1 G' ∧ ∃ vs, G' D2 = some (.lst vs) ∧ BL K wn G' vs ((sss.take i).map trof)) ?_ ?_ ?_ ?_⟩
      · exact ⟨same_new (Same.refl _) hD2, [], upd_same, .nil⟩
      · rintro i G' _ ⟨sG, _⟩
        exact sql (sG _ _ gr1)
      · rintro i y G' hi ⟨sG, vs, gD, bl⟩
        obtain ⟨ss, hss, rc⟩ := (rls1.same sG).get hi
        obtain ⟨q, ys, rfl, _, _, gq, sp⟩ := rc.at_
        have i16 := rc.len
        have hil := (List.getElem?_eq_some_iff.mp hss).1
        have vl := bl.pl.1
        rw [List.length_map, List.length_take] at vl
        walk_at "rd"
        refine ⟨rfl, ?_⟩
        walk_at "rd"
        refine ⟨q, ys, ss, wn, rfl, sql gq, sp, rc.va, rc.one, by omega, fun v t m G2 s2 ht pt hm => ?_⟩
        have gD2 := s2 _ _ gD
        refine ⟨vs, gD2, smallLt (by omega), same_mut (sG.trans s2) hD2, vs ++ [v], upd_same, ?_⟩
        have eT : (sss.take (i + 1)).map trof = (sss.take i).map trof ++ [t] := by
          rw [List.take_add_one, hss, List.map_append, ← trof_of ht]
          rfl
        rw [eT]
        have tp : Tp G2 (upd G2 D2 (.lst (vs ++ [v]))) := .lst (.refl _) gD2
        exact ((bl.keep (.same s2)).keep tp).snoc (pt.keep tp) (by omega)
      rintro G2 ⟨s2, vs2, gD2, bl2⟩
      rw [hxl, List.take_length] at bl2
      have gr2 := s2 _ _ gr1
      have rls2 := rls1.same s2
      have gP2 := s2 _ _ gD1
      have bl12 := bl1.keep (.same s2)
      have eC := rls.cmps
      walk_at "rd"
      with_reducible refine c_rng1 ?_
      walk_at "rd"
      refine ⟨by omega, by omega, for_range (lo := 0) (n := (3 : Int).toNat) (fun i σ G' => ∃ (e8 e9 e10 : Option V), σ = [some (.ref a), some (.ref S), some (.int (wn : Int)), some (.ref rl), e4, e5, some (.ref D1), some (.ref D2), e8, e9, e10, none] ∧ Same G2 G') ?_ ?_ ?_⟩
      · exact ⟨_, _, _, rfl, Same.refl _⟩
      · rintro i σ G' hi ⟨e8, e9, e10, rfl, s3⟩
        obtain ⟨us, hus, hin⟩ := rls.us i
        have rls3 := rls2.same s3
        have bl3 := bl12.keep (.same s3)
        walk_at "rd"
        refine ⟨rl, S, rl, xs, sss, wn, i, by rw [Int.zero_add]; rfl, sql (s3 _ _ gr2), rls3, h5, fun d ds G4 hd s4 gd da dm => ?_⟩
        walk_at "rd"
        refine ⟨D1, vs, sss.map trof, wn, i, us, by rw [Int.zero_add]; rfl, sql (s4 _ _ (s3 _ _ gP2)), (bl3.keep (.same s4)).pl, by rw [List.length_map]; exact h5, by omega, fun s n h => hin s n (by rw [← eC]; exact h), fun t ts G5 ht s5 gt ta tm => ?_⟩
        have et : ts = ds := asc_ext ta da fun z => by rw [tm z, dm z, eC]
        subst et
        have tl : ts.length ≤ 50 := by
          have := nodup_le (ds := ts) (us := us) (ta.imp fun h e => by omega) fun z hz => let ⟨s, h⟩ := (dm z).mp hz; hin s z h
          omega
        have ntd : d ≠ t := ne_of_none gd ht
        have gd5 := s5 _ _ gd
        walk_at "rd"
        refine use_alike (.lst (sql gt) (sql gd5) (Als.ints ts)) (by omega) (fun G6 s6 => ?_)
        have gt6 := s6 _ _ gt
        have gd6 := s6 _ _ gd5
        have gP6 := s6 _ _ (s5 _ _ (s4 _ _ (s3 _ _ gP2)))
        have nPt : D1 ≠ t := ne_of_none (s4 _ _ (s3 _ _ gP2)) ht
        have s36 : Same G2 G6 := ((s3.trans s4).trans s5).trans s6
        have hsz : (ts.map V.int).length < sizeLine := smallLt (by rw [List.length_map]; omega)
        have tp : Tp G6 (upd G6 t (.lst (ts.map V.int ++ [.int 0]))) := .lst (.refl _) gt6
        walk_at "rd"
        walk_at "tf"
        walk_at "rd"
        refine ⟨D1, vs, sss.map trof, wn, i, us, by rw [Int.zero_add]; rfl, sql ((upd_ne nPt).trans gP6), ((((bl3.keep (.same s4)).keep (.same s5)).keep (.same s6)).keep tp).pl, by rw [List.length_map]; exact h5, by omega, fun s n h => hin s n (by rw [← eC]; exact h), fun t2 ts2 G7 ht2 s7 gt2 ta2 tm2 => ?_⟩
        have et : ts2 = ts := asc_ext ta2 da fun z => by rw [tm2 z, dm z, eC]
        subst et
        walk_at "rd"
        refine use_alike (.lst (sql gt2) (sql (s7 _ _ ((upd_ne ntd).trans gd6))) (Als.ints _)) (by omega) (fun G8 s8 => ?_)
        walk_at "rd"
        walk_at "tf"
        walk_at "rd"
        have h0 : G2 t = none := ((s3.trans s4).free ht)
        exact ⟨_, _, _, rfl, ((same_mut s36 h0).trans s7).trans s8⟩
      · rintro σ G' ⟨e8, e9, e10, rfl, s3⟩
        obtain ⟨n, hn, al⟩ := (bl12.keep (.same s3)).al (bl2.keep (.same s3))
        rw [List.length_map] at hn
        walk_at "rd"
        refine use_alike (.lst (sql (s3 _ _ gP2)) (sql (s3 _ _ gD2)) al) (by omega) (fun G8 s8 => ?_)
        exact k _
end
end Tac3
theorem all_mk {l : PySem.W.OpenLaw} {w : World} {K : PySem.W.Frag} {h : Heap} {mg : Str → Option Value} {fa : Addr} (X : K.In h) (G : h.Ns mainGlobals mg) (hfa : mg "law" = some (.ref fa))
    {f0 : Addr} {od0 an0 : Option Addr} {sl0 : Array (Option Value)} {oc0 kV0 dc0 pm0 cd0 ct0 : Value}
    {f1 : Addr} {od1 an1 : Option Addr} {sl1 : Array (Option Value)} {oc1 kV1 dc1 pm1 cd1 ct1 : Value}
    {f2 : Addr} {od2 an2 : Option Addr} {sl2 : Array (Option Value)} {oc2 kV2 dc2 pm2 cd2 ct2 : Value}
    {f3 : Addr} {od3 an3 : Option Addr} {sl3 : Array (Option Value)} {oc3 kV3 dc3 pm3 cd3 ct3 : Value}
    {f4 : Addr} {od4 an4 : Option Addr} {sl4 : Array (Option Value)} {oc4 kV4 dc4 pm4 cd4 ct4 : Value}
    {f5 : Addr} {od5 an5 : Option Addr} {sl5 : Array (Option Value)} {oc5 kV5 dc5 pm5 cd5 ct5 : Value}
    {f6 : Addr} {od6 an6 : Option Addr} {sl6 : Array (Option Value)} {oc6 kV6 dc6 pm6 cd6 ct6 : Value}
    {f7 : Addr} {od7 an7 : Option Addr} {sl7 : Array (Option Value)} {oc7 kV7 dc7 pm7 cd7 ct7 : Value}
    {f8 : Addr} {od8 an8 : Option Addr} {sl8 : Array (Option Value)} {oc8 kV8 dc8 pm8 cd8 ct8 : Value}
    {f9 : Addr} {od9 an9 : Option Addr} {sl9 : Array (Option Value)} {oc9 kV9 dc9 pm9 cd9 ct9 : Value}
    {f10 : Addr} {od10 an10 : Option Addr} {sl10 : Array (Option Value)} {oc10 kV10 dc10 pm10 cd10 ct10 : Value}
    {f11 : Addr} {od11 an11 : Option Addr} {sl11 : Array (Option Value)} {oc11 kV11 dc11 pm11 cd11 ct11 : Value}
    {f12 : Addr} {od12 an12 : Option Addr} {sl12 : Array (Option Value)} {oc12 kV12 dc12 pm12 cd12 ct12 : Value}
    {c_SIGNS : Addr}
    {dd_SIGNS : Option Addr} {nn_SIGNS : Nat} {ss_SIGNS : Array (Option Value)} {t_SIGNS_0 : Tok} {t_SIGNS_1 : Tok} {t_SIGNS_2 : Tok} {t_SIGNS_3 : Tok} {t_SIGNS_4 : Tok} {t_SIGNS_5 : Tok}
    (a0 : PySem.W.nsIn K mainGlobals "parts_of" = some (some (.ref f0)))
    (l0 : K.lookup f0 = some ⟨oc0, od0, .func (PySem.W.fnOf "parts_of" "parts_of" (defArgs s_parts_of) (defBody s_parts_of) (defScope s_parts_of) .none kV0 dc0 pm0 an0 cd0 ct0), sl0⟩)
    (c0 : PySem.W.codeIn K cd0 "parts_of" = true)
    (k0 : PySem.W.keepIn K (.ref f0) = true)
    (a1 : PySem.W.nsIn K mainGlobals "comparisons_of" = some (some (.ref f1)))
    (l1 : K.lookup f1 = some ⟨oc1, od1, .func (PySem.W.fnOf "comparisons_of" "comparisons_of" (defArgs s_comparisons_of) (defBody s_comparisons_of) (defScope s_comparisons_of) .none kV1 dc1 pm1 an1 cd1 ct1), sl1⟩)
    (c1 : PySem.W.codeIn K cd1 "comparisons_of" = true)
    (k1 : PySem.W.keepIn K (.ref f1) = true)
    (a2 : PySem.W.nsIn K mainGlobals "numbers_of" = some (some (.ref f2)))
    (l2 : K.lookup f2 = some ⟨oc2, od2, .func (PySem.W.fnOf "numbers_of" "numbers_of" (defArgs s_numbers_of) (defBody s_numbers_of) (defScope s_numbers_of) .none kV2 dc2 pm2 an2 cd2 ct2), sl2⟩)
    (c2 : PySem.W.codeIn K cd2 "numbers_of" = true)
    (k2 : PySem.W.keepIn K (.ref f2) = true)
    (a3 : PySem.W.nsIn K mainGlobals "_law_stream" = some (some (.ref f3)))
    (l3 : K.lookup f3 = some ⟨oc3, od3, .func (PySem.W.fnOf "_law_stream" "_law_stream" (defArgs s__law_stream) (defBody s__law_stream) (defScope s__law_stream) .none kV3 dc3 pm3 an3 cd3 ct3), sl3⟩)
    (c3 : PySem.W.codeIn K cd3 "_law_stream" = true)
    (k3 : PySem.W.keepIn K (.ref f3) = true)
    (a4 : PySem.W.nsIn K mainGlobals "_law_draw" = some (some (.ref f4)))
    (l4 : K.lookup f4 = some ⟨oc4, od4, .func (PySem.W.fnOf "_law_draw" "_law_draw" (defArgs s__law_draw) (defBody s__law_draw) (defScope s__law_draw) .none kV4 dc4 pm4 an4 cd4 ct4), sl4⟩)
    (c4 : PySem.W.codeIn K cd4 "_law_draw" = true)
    (k4 : PySem.W.keepIn K (.ref f4) = true)
    (a5 : PySem.W.nsIn K mainGlobals "_law_number" = some (some (.ref f5)))
    (l5 : K.lookup f5 = some ⟨oc5, od5, .func (PySem.W.fnOf "_law_number" "_law_number" (defArgs s__law_number) (defBody s__law_number) (defScope s__law_number) .none kV5 dc5 pm5 an5 cd5 ct5), sl5⟩)
    (c5 : PySem.W.codeIn K cd5 "_law_number" = true)
    (k5 : PySem.W.keepIn K (.ref f5) = true)
    (a6 : PySem.W.nsIn K mainGlobals "_law_pool" = some (some (.ref f6)))
    (l6 : K.lookup f6 = some ⟨oc6, od6, .func (PySem.W.fnOf "_law_pool" "_law_pool" (defArgs s__law_pool) (defBody s__law_pool) (defScope s__law_pool) .none kV6 dc6 pm6 an6 cd6 ct6), sl6⟩)
    (c6 : PySem.W.codeIn K cd6 "_law_pool" = true)
    (k6 : PySem.W.keepIn K (.ref f6) = true)
    (a7 : PySem.W.nsIn K mainGlobals "_law_leaf" = some (some (.ref f7)))
    (l7 : K.lookup f7 = some ⟨oc7, od7, .func (PySem.W.fnOf "_law_leaf" "_law_leaf" (defArgs s__law_leaf) (defBody s__law_leaf) (defScope s__law_leaf) .none kV7 dc7 pm7 an7 cd7 ct7), sl7⟩)
    (c7 : PySem.W.codeIn K cd7 "_law_leaf" = true)
    (k7 : PySem.W.keepIn K (.ref f7) = true)
    (a8 : PySem.W.nsIn K mainGlobals "_law_recipe" = some (some (.ref f8)))
    (l8 : K.lookup f8 = some ⟨oc8, od8, .func (PySem.W.fnOf "_law_recipe" "_law_recipe" (defArgs s__law_recipe) (defBody s__law_recipe) (defScope s__law_recipe) .none kV8 dc8 pm8 an8 cd8 ct8), sl8⟩)
    (c8 : PySem.W.codeIn K cd8 "_law_recipe" = true)
    (k8 : PySem.W.keepIn K (.ref f8) = true)
    (a9 : PySem.W.nsIn K mainGlobals "_law_built" = some (some (.ref f9)))
    (l9 : K.lookup f9 = some ⟨oc9, od9, .func (PySem.W.fnOf "_law_built" "_law_built" (defArgs s__law_built) (defBody s__law_built) (defScope s__law_built) .none kV9 dc9 pm9 an9 cd9 ct9), sl9⟩)
    (c9 : PySem.W.codeIn K cd9 "_law_built" = true)
    (k9 : PySem.W.keepIn K (.ref f9) = true)
    (a10 : PySem.W.nsIn K mainGlobals "_law_alike" = some (some (.ref f10)))
    (l10 : K.lookup f10 = some ⟨oc10, od10, .func (PySem.W.fnOf "_law_alike" "_law_alike" (defArgs s__law_alike) (defBody s__law_alike) (defScope s__law_alike) .none kV10 dc10 pm10 an10 cd10 ct10), sl10⟩)
    (c10 : PySem.W.codeIn K cd10 "_law_alike" = true)
    (k10 : PySem.W.keepIn K (.ref f10) = true)
    (a11 : PySem.W.nsIn K mainGlobals "_law_compared_with" = some (some (.ref f11)))
    (l11 : K.lookup f11 = some ⟨oc11, od11, .func (PySem.W.fnOf "_law_compared_with" "_law_compared_with" (defArgs s__law_compared_with) (defBody s__law_compared_with) (defScope s__law_compared_with) .none kV11 dc11 pm11 an11 cd11 ct11), sl11⟩)
    (c11 : PySem.W.codeIn K cd11 "_law_compared_with" = true)
    (k11 : PySem.W.keepIn K (.ref f11) = true)
    (a12 : PySem.W.nsIn K mainGlobals "law" = some (some (.ref f12)))
    (l12 : K.lookup f12 = some ⟨oc12, od12, .func (PySem.W.fnOf "law" "law" (defArgs s_law) (defBody s_law) (defScope s_law) .none kV12 dc12 pm12 an12 cd12 ct12), sl12⟩)
    (c12 : PySem.W.codeIn K cd12 "law" = true)
    (k12 : PySem.W.keepIn K (.ref f12) = true)
    (g_SIGNS : PySem.W.nsIn K mainGlobals "SIGNS" = some (some (.ref c_SIGNS)))
    (l_SIGNS : K.lookup c_SIGNS = some ⟨.type "tuple", dd_SIGNS, .seq #[.str "<" t_SIGNS_0, .str "<=" t_SIGNS_1, .str "=" t_SIGNS_2, .str "!=" t_SIGNS_3, .str ">=" t_SIGNS_4, .str ">" t_SIGNS_5] nn_SIGNS, ss_SIGNS⟩)
    (z_abs : PySem.W.nsIn K mainGlobals "abs" = some none)
    (z_bool : PySem.W.nsIn K mainGlobals "bool" = some none)
    (z_int : PySem.W.nsIn K mainGlobals "int" = some none)
    (z_isinstance : PySem.W.nsIn K mainGlobals "isinstance" = some none)
    (z_len : PySem.W.nsIn K mainGlobals "len" = some none)
    (z_list : PySem.W.nsIn K mainGlobals "list" = some none)
    (z_range : PySem.W.nsIn K mainGlobals "range" = some none)
    (z_sorted : PySem.W.nsIn K mainGlobals "sorted" = some none)
    (z_str : PySem.W.nsIn K mainGlobals "str" = some none)
    (z_tuple : PySem.W.nsIn K mainGlobals "tuple" = some none) :
    ∃ fd : FuncData, (∀ (s : Shared) (v : Value), BindsTo s fd ⟨[v], []⟩ [("_law_script", v)]) ∧ ∀ base : Heap, K.In base → base.Ns mainGlobals mg → FnOk l.prog w K mg base CX0 22 fa fd ["_law_script"] (spLaw K) := by
  have e := hfa.symm.trans (PySem.W.mg_of X G a12)
  cases e
  have F0 := fun_mk (st := s_parts_of) l0 c0 k0
  have b0 := F0.binds (ps := ["predicate"]) fun _ _ _ _ _ _ us hl => match us, hl with | [_], _ => rfl
  have F1 := fun_mk (st := s_comparisons_of) l1 c1 k1
  have b1 := F1.binds (ps := ["predicate"]) fun _ _ _ _ _ _ us hl => match us, hl with | [_], _ => rfl
  have F2 := fun_mk (st := s_numbers_of) l2 c2 k2
  have b2 := F2.binds (ps := ["predicates", "column"]) fun _ _ _ _ _ _ us hl => match us, hl with | [_, _], _ => rfl
  have F3 := fun_mk (st := s__law_stream) l3 c3 k3
  have b3 := F3.binds (ps := ["_law_script"]) fun _ _ _ _ _ _ us hl => match us, hl with | [_], _ => rfl
  have F4 := fun_mk (st := s__law_draw) l4 c4 k4
  have b4 := F4.binds (ps := ["_law_stream_here", "_law_many"]) fun _ _ _ _ _ _ us hl => match us, hl with | [_, _], _ => rfl
  have F5 := fun_mk (st := s__law_number) l5 c5 k5
  have b5 := F5.binds (ps := ["_law_stream_here", "_law_most"]) fun _ _ _ _ _ _ us hl => match us, hl with | [_, _], _ => rfl
  have F6 := fun_mk (st := s__law_pool) l6 c6 k6
  have b6 := F6.binds (ps := ["_law_stream_here", "_law_wide"]) fun _ _ _ _ _ _ us hl => match us, hl with | [_, _], _ => rfl
  have F7 := fun_mk (st := s__law_leaf) l7 c7 k7
  have b7 := F7.binds (ps := ["_law_stream_here", "_law_pool_here"]) fun _ _ _ _ _ _ us hl => match us, hl with | [_, _], _ => rfl
  have F8 := fun_mk (st := s__law_recipe) l8 c8 k8
  have b8 := F8.binds (ps := ["_law_stream_here", "_law_pool_here", "_law_most"]) fun _ _ _ _ _ _ us hl => match us, hl with | [_, _, _], _ => rfl
  have F9 := fun_mk (st := s__law_built) l9 c9 k9
  have b9 := F9.binds (ps := ["_law_steps"]) fun _ _ _ _ _ _ us hl => match us, hl with | [_], _ => rfl
  have F10 := fun_mk (st := s__law_alike) l10 c10 k10
  have b10 := F10.binds (ps := ["_law_told", "_law_due"]) fun _ _ _ _ _ _ us hl => match us, hl with | [_, _], _ => rfl
  have F11 := fun_mk (st := s__law_compared_with) l11 c11 k11
  have b11 := F11.binds (ps := ["_law_recipes", "_law_c"]) fun _ _ _ _ _ _ us hl => match us, hl with | [_, _], _ => rfl
  have F12 := fun_mk (st := s_law) l12 c12 k12
  have T : Txt K mg := { a_parts_of := _, d_parts_of := _, F_parts_of := F0, b_parts_of := b0, g_parts_of := PySem.W.mg_of X G a0, a_comparisons_of := _, d_comparisons_of := _, F_comparisons_of := F1, b_comparisons_of := b1, g_comparisons_of := PySem.W.mg_of X G a1, a_numbers_of := _, d_numbers_of := _, F_numbers_of := F2, b_numbers_of := b2, g_numbers_of := PySem.W.mg_of X G a2, a_stream := _, d_stream := _, F_stream := F3, b_stream := b3, g_stream := PySem.W.mg_of X G a3, a_draw := _, d_draw := _, F_draw := F4, b_draw := b4, g_draw := PySem.W.mg_of X G a4, a_number := _, d_number := _, F_number := F5, b_number := b5, g_number := PySem.W.mg_of X G a5, a_pool := _, d_pool := _, F_pool := F6, b_pool := b6, g_pool := PySem.W.mg_of X G a6, a_leaf := _, d_leaf := _, F_leaf := F7, b_leaf := b7, g_leaf := PySem.W.mg_of X G a7, a_recipe := _, d_recipe := _, F_recipe := F8, b_recipe := b8, g_recipe := PySem.W.mg_of X G a8, a_built := _, d_built := _, F_built := F9, b_built := b9, g_built := PySem.W.mg_of X G a9, a_alike := _, d_alike := _, F_alike := F10, b_alike := b10, g_alike := PySem.W.mg_of X G a10, a_compared_with := _, d_compared_with := _, F_compared_with := F11, b_compared_with := b11, g_compared_with := PySem.W.mg_of X G a11, c_SIGNS := _, g_SIGNS := PySem.W.mg_of X G g_SIGNS, l_SIGNS := fun H => .inr ⟨_, _, _, l_SIGNS, rfl, rfl, by rw [sizeLine_eq]; show 6 ≤ 16777216; decide, (.cons ⟨_, rfl⟩ (.cons ⟨_, rfl⟩ (.cons ⟨_, rfl⟩ (.cons ⟨_, rfl⟩ (.cons ⟨_, rfl⟩ (.cons ⟨_, rfl⟩ .nil))))))⟩, z_abs := PySem.W.mg_none_of X G z_abs, z_bool := PySem.W.mg_none_of X G z_bool, z_int := PySem.W.mg_none_of X G z_int, z_isinstance := PySem.W.mg_none_of X G z_isinstance, z_len := PySem.W.mg_none_of X G z_len, z_list := PySem.W.mg_none_of X G z_list, z_range := PySem.W.mg_none_of X G z_range, z_sorted := PySem.W.mg_none_of X G z_sorted, z_str := PySem.W.mg_none_of X G z_str, z_tuple := PySem.W.mg_none_of X G z_tuple }
  exact ⟨PySem.W.fnOf "law" "law" (defArgs s_law) (defBody s_law) (defScope s_law) .none kV12 dc12 pm12 an12 cd12 ct12, fun s v => .of_eq rfl, fun base _ _ => ok_law F12 T⟩
end Y
open PySem PySem.W PyProof.Rows
set_option maxHeartbeats 0 in
theorem PySem.Challenge.cw_wholepages_k12_numbers_of_holds : PySem.Challenge.rw_wholepages_k12_numbers_of.Holds := by
  w_on; o_law; k_head; (case hw => w_witness2)
  k_fill
  refine L2.walk_of (l := PySem.Challenge.rw_wholepages_k12_numbers_of) (n := 63) (k := 22) (x := "_law_script") (CX := fun _ => L2.CX0) (sp := fun w => Y.spLaw _) rfl (by decide) rfl ⟨rfl, by decide, by decide⟩ (fun w h Y => PySem.W.kIn_of Y) ?F (fun _ _ a ns hl _ hS => ⟨a, ns, rfl, hS, hl, fun _ => rfl⟩) (fun _ _ _ _ _ h => h)
  case F =>
    intro w mg fa h KX G hmg
    refine' Y.all_mk KX G hmg ?a0 ?l0 ?c0 ?k0 ?a1 ?l1 ?c1 ?k1 ?a2 ?l2 ?c2 ?k2 ?a3 ?l3 ?c3 ?k3 ?a4 ?l4 ?c4 ?k4 ?a5 ?l5 ?c5 ?k5 ?a6 ?l6 ?c6 ?k6 ?a7 ?l7 ?c7 ?k7 ?a8 ?l8 ?c8 ?k8 ?a9 ?l9 ?c9 ?k9 ?a10 ?l10 ?c10 ?k10 ?a11 ?l11 ?c11 ?k11 ?a12 ?l12 ?c12 ?k12 ?g_SIGNS ?l_SIGNS ?z_abs ?z_bool ?z_int ?z_isinstance ?z_len ?z_list ?z_range ?z_sorted ?z_str ?z_tuple
    (case a0 => k_is); (case l0 => k_is); (case c0 => k_is); (case k0 => k_is); (case a1 => k_is); (case l1 => k_is); (case c1 => k_is); (case k1 => k_is); (case a2 => k_is); (case l2 => k_is); (case c2 => k_is); (case k2 => k_is); (case a3 => k_is); (case l3 => k_is); (case c3 => k_is); (case k3 => k_is); (case a4 => k_is); (case l4 => k_is); (case c4 => k_is); (case k4 => k_is); (case a5 => k_is); (case l5 => k_is); (case c5 => k_is); (case k5 => k_is); (case a6 => k_is); (case l6 => k_is); (case c6 => k_is); (case k6 => k_is); (case a7 => k_is); (case l7 => k_is); (case c7 => k_is); (case k7 => k_is); (case a8 => k_is); (case l8 => k_is); (case c8 => k_is); (case k8 => k_is); (case a9 => k_is); (case l9 => k_is); (case c9 => k_is); (case k9 => k_is); (case a10 => k_is); (case l10 => k_is); (case c10 => k_is); (case k10 => k_is); (case a11 => k_is); (case l11 => k_is); (case c11 => k_is); (case k11 => k_is); (case a12 => k_is); (case l12 => k_is); (case c12 => k_is); (case k12 => k_is); (case g_SIGNS => k_is); (case l_SIGNS => k_is); (case z_abs => k_is); (case z_bool => k_is); (case z_int => k_is); (case z_isinstance => k_is); (case z_len => k_is); (case z_list => k_is); (case z_range => k_is); (case z_sorted => k_is); (case z_str => k_is); (case z_tuple => k_is)

