import PyProof.Rows.All
import Wide.All
import OpenK.AllK
import Wide.FinOn
import HandS.ForMost
import HandS.Wide
import HandS.IsInst
import HandS.EndBits
import HandS.Style
import HandS.SortInts
import HandS.Evl
import HandS.SetFor
import HandS.Strs
import HandS.TupMul
import PySem.Challenge.RW_wholepages_k15_within
set_option Elab.async false
set_option linter.all false
set_option maxRecDepth 100000
set_option maxHeartbeats 4000000

/-! ## Common: steps of a reading, heaps, the law's own helpers -/
namespace Y
open PySem PySem.Spec PyProof.Rows L2
/-! ### steps -/
section
variable {K : PySem.W.Frag} {σ : L2.St} {H : Hp} {D : Ends} {ta tb te tc : TE} {t u : TS} {c d : TT} {Q : VK} {R : Bool → Hp → Prop}
theorem c_seq (h : t { D with nx := u D } σ H) : tSeq t u D σ H := h
theorem st_of {t : TS} {σ0 : L2.St} (e : σ0 = σ) (h : t D σ H) : t D σ0 H := by
  rw [e]
  exact h
theorem c_next (h : D.nx σ H) : tNext D σ H := h
theorem c_asg {g : TG} (h : te σ H fun x H1 => g x σ H1 D.nx) : tAsg te g D σ H := h
theorem c_gname {i : Nat} {v : V} {Q : L2.St → Hp → Prop} (h : Q (σ.set i (some v)) H) : gName i v σ H Q := h
theorem c_gsub {to ti : TE} {s : TSet} {v : V} {Q : L2.St → Hp → Prop} (h : to σ H fun o H1 => ti σ H1 fun i H2 => s o i v H2 fun H3 => Q σ H3) : gSub to ti s v σ H Q := h
theorem c_drop (h : te σ H fun _ H1 => D.nx σ H1) : tDrop te D σ H := h
theorem c_ret (h : te σ H D.rt) : tRet te D σ H := h
theorem c_retN (h : D.rt .non H) : tRetN D σ H := h
theorem c_ifs (h : c σ H fun b H1 => if b = true then t D σ H1 else u D σ H1) : tIfS c t u D σ H := h
theorem c_var {i : Nat} {v : V} (e : σ[i]? = some (some v)) (h : Q v H) : tVar i σ H Q := ⟨v, e, h⟩
theorem c_c {v : V} (h : Q v H) : tC v σ H Q := h
theorem c_op {r : R2} (h : ta σ H fun x H1 => tb σ H1 fun y H2 => r x y H2 Q) : tOp r ta tb σ H Q := h
theorem c_un {r : V → Hp → VK → Prop} (h : ta σ H fun x H1 => r x H1 Q) : tUn r ta σ H Q := h
theorem c_test (h : te σ H fun x H1 => ∃ k, x = .bl k ∧ R k H1) : tTest te σ H R := h
theorem c_B (h : te σ H fun x H1 => ∃ k, x = .bl k ∧ R k H1) : tB te σ H R := h
theorem c_bl {k : Bool} (h : R k H) : ∃ k', V.bl k = .bl k' ∧ R k' H := ⟨k, rfl, h⟩
theorem c_and (h : c σ H fun b H1 => if b = true then d σ H1 R else R false H1) : tAnd c d σ H R := h
theorem c_or (h : c σ H fun b H1 => if b = true then R true H1 else d σ H1 R) : tOr c d σ H R := h
theorem c_not (h : c σ H fun b H1 => R (!b) H1) : tNot c σ H R := h
theorem c_andV (h : ta σ H fun x H1 => ∃ b, x = .bl b ∧ if b = true then tb σ H1 Q else Q (.bl false) H1) : tAndV ta tb σ H Q := h
theorem c_orV (h : ta σ H fun x H1 => ∃ b, x = .bl b ∧ if b = true then Q (.bl true) H1 else tb σ H1 Q) : tOrV ta tb σ H Q := h
theorem c_notV (h : ta σ H fun x H1 => ∃ b, x = .bl b ∧ Q (.bl (!b)) H1) : tNotV ta σ H Q := h
theorem c_if (h : c σ H fun b H1 => if b = true then ta σ H1 Q else tb σ H1 Q) : tIf c ta tb σ H Q := h
theorem c_CB {r : List V → Hp → VK → Prop} {t : TA} (h : t σ H fun vs H1 => r vs H1 Q) : tCB r t σ H Q := h
theorem c_nil {Q : List V → Hp → Prop} (h : Q [] H) : tNil σ H Q := h
theorem c_cons {tr : TA} {Q : List V → Hp → Prop} (h : ta σ H fun x H1 => tr σ H1 fun xs H2 => Q (x :: xs) H2) : tCons ta tr σ H Q := h
theorem c_call {sp : Sp} {dvs : List V} {E : XK} {t : TA} (h : t σ H fun vs H1 => sp (vs ++ dvs) H1 Q E) : tCall sp dvs E t σ H Q := h
theorem c_lst {t : TA} (h : t σ H fun xs H1 => xs.length ≤ sizeLine ∧ ∀ p, H1 p = none → Q (.ref p) (upd H1 p (.lst xs))) : tLst t σ H Q := h
theorem c_tup {t : TA} (h : t σ H fun xs H1 => xs.length ≤ sizeLine ∧ ∀ p, H1 p = none → Q (.ref p) (upd H1 p (.tup xs))) : tTup t σ H Q := h
theorem c_BM {T : String} {r : V → List V → Hp → VK → Prop} {to : TE} {t : TA} (h : to σ H fun x H1 => tyV K T x H1 ∧ t σ H1 fun xs H2 => r x xs H2 Q) : tBM K T r to t σ H Q := h
theorem c_BM0 {T : String} {r : V → List V → Hp → VK → Prop} {to : TE} (h : to σ H fun x H1 => tyV K T x H1 ∧ r x [] H1 Q) : tBM0 K T r to σ H Q := h
theorem c_chain {r r' : R2} (h : ta σ H fun x H1 => tb σ H1 fun y H2 => r x y H2 fun z H3 => ∃ k, z = .bl k ∧ if k = true then tc σ H3 fun w H4 => r' y w H4 Q else Q (.bl false) H3) : tChain r r' ta tb tc σ H Q := h
theorem c_for {wi : TI} {g : TG} {D : Ends} {xs : List V} {a : Addr} (hx : SqL K H a xs)
    (h : ∃ W : Nat → Nat → L2.St → Hp → Prop, (∃ m, W 0 m σ H) ∧ ∀ i m σ H, W i m σ H →
      ((Itl K a).stop i H ∧ D.nx σ H) ∨ ((Itl K a).go i H ∧ ∃ N : L2.St → Hp → Prop, (∀ σ' H', N σ' H' → ∃ m', m' < m ∧ W (i + 1) m' σ' H') ∧ ∀ x H', (Itl K a).yld i H x H' → g x σ H' fun σ2 H2 => t { D with nx := N, ct := N, bk := D.nx } σ2 H2)) :
    ∃ a', V.ref a = .ref a' ∧ (∃ xs, SqL K H a' xs) ∧ ∃ W : Nat → Nat → L2.St → Hp → Prop, (∃ m, W 0 m σ H) ∧ ∀ i m σ H, W i m σ H →
      ((Itl K a').stop i H ∧ D.nx σ H) ∨ ((Itl K a').go i H ∧ ∃ N : L2.St → Hp → Prop, (∀ σ' H', N σ' H' → ∃ m', m' < m ∧ W (i + 1) m' σ' H') ∧ ∀ x H', (Itl K a').yld i H x H' → g x σ H' fun σ2 H2 => t { D with nx := N, ct := N, bk := D.nx } σ2 H2) := ⟨a, rfl, ⟨xs, hx⟩, h⟩
/-- for x in xs, by what holds ahead of each turn -/
theorem c_forL {tl : TE} {g : TG} (h : tl σ H fun x H1 => ∃ a xs, x = .ref a ∧ SqL K H1 a xs ∧ ∃ Pv : Nat → L2.St → Hp → Prop, Pv 0 σ H1 ∧ (∀ i σ H, i ≤ xs.length → Pv i σ H → SqL K H a xs) ∧
      (∀ i x σ H, xs[i]? = some x → Pv i σ H → g x σ H fun σ2 H2 => t { D with nx := Pv (i + 1), ct := Pv (i + 1), bk := D.nx } σ2 H2) ∧ (∀ σ H, Pv xs.length σ H → D.nx σ H))
    (mono : ∀ Q Q' : VK, (∀ v H, Q v H → Q' v H) → tl σ H Q → tl σ H Q') : tFor (iList K tl) g t D σ H := by
  refine mono _ _ (fun v H1 h => ?_) h
  obtain ⟨a, xs, rfl, hx, Pv, h0, hl, hs, hd⟩ := h
  exact ⟨a, rfl, ⟨xs, hx⟩, for_list (xs := xs) Pv h0 hl hs hd⟩
theorem c_rng1 {ta : TA} {g : TG} (h : ta σ H fun vs H1 => ∃ j : Int, vs = [.int j] ∧ -(2 ^ 62) ≤ j ∧ j < 2 ^ 62 ∧ ∃ W : Nat → Nat → L2.St → Hp → Prop, (∃ m, W 0 m σ H1) ∧ ∀ i m σ H, W i m σ H →
      ((Itr 0 j.toNat).stop i H ∧ D.nx σ H) ∨ ((Itr 0 j.toNat).go i H ∧ ∃ N : L2.St → Hp → Prop, (∀ σ' H', N σ' H' → ∃ m', m' < m ∧ W (i + 1) m' σ' H') ∧ ∀ x H', (Itr 0 j.toNat).yld i H x H' → g x σ H' fun σ2 H2 => t { D with nx := N, ct := N, bk := D.nx } σ2 H2)) :
    tFor (iRng1 ta) g t D σ H := h
theorem c_forList {tl : TE} {g : TG} (h : tl σ H fun x H1 => ∃ a, x = .ref a ∧ (∃ xs, SqL K H1 a xs) ∧ ∃ W : Nat → Nat → L2.St → Hp → Prop, (∃ m, W 0 m σ H1) ∧ ∀ i m σ H, W i m σ H →
      ((Itl K a).stop i H ∧ D.nx σ H) ∨ ((Itl K a).go i H ∧ ∃ N : L2.St → Hp → Prop, (∀ σ' H', N σ' H' → ∃ m', m' < m ∧ W (i + 1) m' σ' H') ∧ ∀ x H', (Itl K a).yld i H x H' → g x σ H' fun σ2 H2 => t { D with nx := N, ct := N, bk := D.nx } σ2 H2)) :
    tFor (iList K tl) g t D σ H := h
theorem c_forTup {tl : TE} {g : TG} (h : tl σ H fun x H1 => ∃ a, x = .ref a ∧ (∃ xs, SqT K H1 a xs) ∧ ∃ W : Nat → Nat → L2.St → Hp → Prop, (∃ m, W 0 m σ H1) ∧ ∀ i m σ H, W i m σ H →
      ((Itt K a).stop i H ∧ D.nx σ H) ∨ ((Itt K a).go i H ∧ ∃ N : L2.St → Hp → Prop, (∀ σ' H', N σ' H' → ∃ m', m' < m ∧ W (i + 1) m' σ' H') ∧ ∀ x H', (Itt K a).yld i H x H' → g x σ H' fun σ2 H2 => t { D with nx := N, ct := N, bk := D.nx } σ2 H2)) :
    tFor (iTup K tl) g t D σ H := h
/-! operators by values -/
theorem r_I0 {g : Int → Int → V} {i j : Int} (h : Q (g i j) H) : rI0 g (.int i) (.int j) H Q := ⟨i, j, rfl, rfl, h⟩
theorem r_I {C : Int → Int → Prop} {g : Int → Int → V} {i j : Int} (hc : C i j) (h : Q (g i j) H) : rI C g (.int i) (.int j) H Q := ⟨i, j, rfl, rfl, hc, h⟩
theorem r_U {g : Int → V} {i : Int} (h : Q (g i) H) : rU g (.int i) H Q := ⟨i, rfl, h⟩
theorem dec_int {i j : Int} : decide (V.int i = V.int j) = decide (i = j) := by
  by_cases h : i = j
  · rw [decide_eq_true h, h, decide_eq_true rfl]
  · rw [decide_eq_false h, decide_eq_false fun z => h (V.int.inj z)]
theorem dec_bl {i j : Bool} : decide (V.bl i = V.bl j) = decide (i = j) := by cases i <;> cases j <;> rfl
theorem dec_str {i j : Str} : decide (V.str i = V.str j) = decide (i = j) := by
  by_cases h : i = j
  · rw [decide_eq_true h, h, decide_eq_true rfl]
  · rw [decide_eq_false h, decide_eq_false fun z => h (V.str.inj z)]
theorem r_eqI {i j : Int} (h : Q (.bl (decide (i = j))) H) : rEq (.int i) (.int j) H Q := ⟨rfl, by rw [dec_int]; exact h⟩
theorem r_neI {i j : Int} (h : Q (.bl (!decide (i = j))) H) : rNe (.int i) (.int j) H Q := ⟨rfl, by rw [dec_int]; exact h⟩
theorem r_eqB {i j : Bool} (h : Q (.bl (decide (i = j))) H) : rEq (.bl i) (.bl j) H Q := ⟨rfl, by rw [dec_bl]; exact h⟩
theorem r_neB {i j : Bool} (h : Q (.bl (!decide (i = j))) H) : rNe (.bl i) (.bl j) H Q := ⟨rfl, by rw [dec_bl]; exact h⟩
theorem r_eqS {i j : Str} (h : Q (.bl (decide (i = j))) H) : rEq (.str i) (.str j) H Q := ⟨rfl, by rw [dec_str]; exact h⟩
theorem r_neS {i j : Str} (h : Q (.bl (!decide (i = j))) H) : rNe (.str i) (.str j) H Q := ⟨rfl, by rw [dec_str]; exact h⟩
theorem r_isN {x : V} (h : Q (.bl (decide (x = .non))) H) : (fun (x y : V) (H : Hp) (Q : VK) => y = .non ∧ Q (.bl (decide (x = .non))) H) x .non H Q := ⟨rfl, h⟩
theorem r_ixL {p : Addr} {xs : List V} {i : Int} {v : V} (hx : SqL K H p xs) (ha : atI xs i = some v) (h : Q v H) : rIxL K (.ref p) (.int i) H Q := ⟨p, xs, i, v, rfl, rfl, hx, ha, h⟩
theorem r_ixT {p : Addr} {xs : List V} {i : Int} {v : V} (hx : SqT K H p xs) (ha : atI xs i = some v) (h : Q v H) : rIxT K (.ref p) (.int i) H Q := ⟨p, xs, i, v, rfl, rfl, hx, ha, h⟩
theorem r_inL {n : Bool} {p : Addr} {x : V} {xs : List V} (hx : SqL K H p xs) (h1 : flatV x = true) (h2 : xs.all flatV = true) (h : Q (.bl (if n then !inV x xs else inV x xs)) H) : rIn K n x (.ref p) H Q := ⟨p, xs, rfl, .inl hx, h1, h2, h⟩
theorem r_inT {n : Bool} {p : Addr} {x : V} {xs : List V} (hx : SqT K H p xs) (h1 : flatV x = true) (h2 : xs.all flatV = true) (h : Q (.bl (if n then !inV x xs else inV x xs)) H) : rIn K n x (.ref p) H Q := ⟨p, xs, rfl, .inr hx, h1, h2, h⟩
theorem r_lenL {p : Addr} {xs : List V} (hx : SqL K H p xs) (h : Q (.int xs.length) H) : (fun (xs : List V) (H : Hp) (Q : VK) => ∃ p ys, xs = [.ref p] ∧ (SqL K H p ys ∨ SqT K H p ys) ∧ Q (.int ys.length) H) [.ref p] H Q := ⟨p, xs, rfl, .inl hx, h⟩
theorem r_lenT {p : Addr} {xs : List V} (hx : SqT K H p xs) (h : Q (.int xs.length) H) : (fun (xs : List V) (H : Hp) (Q : VK) => ∃ p ys, xs = [.ref p] ∧ (SqL K H p ys ∨ SqT K H p ys) ∧ Q (.int ys.length) H) [.ref p] H Q := ⟨p, xs, rfl, .inr hx, h⟩
theorem r_app {p : Addr} {xs : List V} {y : V} (hx : H p = some (.lst xs)) (hl : xs.length < sizeLine) (h : Q .non (upd H p (.lst (xs ++ [y])))) : rAppend (.ref p) [y] H Q := ⟨p, xs, y, rfl, rfl, hx, hl, h⟩
theorem r_pop {p : Addr} {xs : List V} {y : V} (hx : H p = some (.lst (xs ++ [y]))) (h : Q y (upd H p (.lst xs))) : rPop (.ref p) [] H Q :=
  ⟨p, xs ++ [y], y, rfl, rfl, hx, by simp, by rw [List.dropLast_concat]; exact h⟩
theorem r_setL {p : Addr} {xs : List V} {i : Int} {j : Nat} {v : V} {Q : Hp → Prop} (hx : H p = some (.lst xs)) (hj : ixN xs.length i = some j) (h : Q (upd H p (.lst (xs.set j v)))) : rSetL (.ref p) (.int i) v H Q := ⟨p, xs, i, j, rfl, rfl, hx, hj, h⟩
theorem r_pow18 {H : Hp} {Q : VK} (h : Q (.int 1000000000000000000) H) : rI CPow (fun i j => .int (i ^ j.toNat)) (.int 10) (.int 18) H Q := r_I ⟨by decide, by decide, by decide⟩ h
theorem r_pow17 {H : Hp} {Q : VK} (h : Q (.int 100000000000000000) H) : rI CPow (fun i j => .int (i ^ j.toNat)) (.int 10) (.int 17) H Q := r_I ⟨by decide, by decide, by decide⟩ h
theorem ixn {n j : Nat} (h : j < n) : ixN n (j : Int) = some j := by
  unfold ixN
  rw [if_pos (by omega), if_pos (by omega)]
  rfl
theorem map_at {ns : List Int} {i : Nat} (h : i < ns.length) : (ns.map V.int)[i]? = some (.int ns[i]) := by
  rw [List.getElem?_map, List.getElem?_eq_getElem h]
  rfl
theorem r_tyL {p : Addr} {xs : List V} (hx : SqL K H p xs) {B : Prop} (h : B) : tyV K "list" (.ref p) H ∧ B := ⟨.inl ⟨rfl, _, hx⟩, h⟩
end
/-! ### tests -/
theorem i_T {b : Bool} {A B : Prop} (hb : b = true) (h : A) : if b = true then A else B := by
  rw [if_pos hb]
  exact h
theorem i_F {b : Bool} {A B : Prop} (hb : b = false) (h : B) : if b = true then A else B := by
  rw [hb, if_neg Bool.false_ne_true]
  exact h
theorem i_2 {b : Bool} {A B : Prop} (h1 : b = true → A) (h2 : b = false → B) : if b = true then A else B := by
  cases b with
  | true => exact i_T rfl (h1 rfl)
  | false => exact i_F rfl (h2 rfl)
theorem i_d {p : Prop} [Decidable p] {A B : Prop} (h1 : p → A) (h2 : ¬ p → B) : if decide p = true then A else B := by
  by_cases h : p
  · exact i_T (decide_eq_true h) (h1 h)
  · exact i_F (decide_eq_false h) (h2 h)
theorem i_n {p : Prop} [Decidable p] {A B : Prop} (h1 : ¬ p → A) (h2 : p → B) : if (!decide p) = true then A else B := by
  by_cases h : p
  · exact i_F (by rw [decide_eq_true h]; rfl) (h2 h)
  · exact i_T (by rw [decide_eq_false h]; rfl) (h1 h)
theorem small {n : Nat} (h : n ≤ 100000) : n ≤ sizeLine := Nat.le_trans h (by decide)
theorem smallLt {n : Nat} (h : n < 100000) : n < sizeLine := Nat.lt_of_lt_of_le h (by decide)
/-! ### heaps: what stays but at S -/
def Ex (S : Addr) (H H' : Hp) : Prop := ∀ a o, a ≠ S → H a = some o → H' a = some o
theorem Ex.refl (S : Addr) (H : Hp) : Ex S H H := fun _ _ _ h => h
theorem Ex.trans {S : Addr} {H H1 H2 : Hp} (a : Ex S H H1) (b : Ex S H1 H2) : Ex S H H2 := fun x o n h => b x o n (a x o n h)
theorem Ex.new {S : Addr} {H H1 : Hp} {p : Addr} {o : HO} (e : Ex S H H1) (h : H1 p = none) : Ex S H (upd H1 p o) := fun a u n ha => by
  rw [upd_ne (ne_of_none (e a u n ha) h)]
  exact e a u n ha
theorem Ex.mut {S : Addr} {H H1 : Hp} {p : Addr} {o : HO} (e : Ex S H H1) (h : H p = none) : Ex S H (upd H1 p o) := fun a u n ha => by
  rw [upd_ne (ne_of_none ha h)]
  exact e a u n ha
theorem Ex.at {S : Addr} {H H1 : Hp} {o : HO} (e : Ex S H H1) : Ex S H (upd H1 S o) := fun a u n ha => by
  rw [upd_ne n]
  exact e a u n ha
theorem Ex.same {S : Addr} {H H1 H2 : Hp} (e : Ex S H H1) (s : Same H1 H2) : Ex S H H2 := fun a u n ha => s a u (e a u n ha)
theorem same_new {H H1 : Hp} {p : Addr} {o : HO} (e : Same H H1) (h : H1 p = none) : Same H (upd H1 p o) := fun a u ha => by
  rw [upd_ne (ne_of_none (e a u ha) h)]
  exact e a u ha
theorem same_mut {H H1 : Hp} {p : Addr} {o : HO} (e : Same H H1) (h : H p = none) : Same H (upd H1 p o) := fun a u ha => by
  rw [upd_ne (ne_of_none ha h)]
  exact e a u ha
theorem same_tup {K : PySem.W.Frag} {H H' : Hp} {a : Addr} {xs : List V} (e : Same H H') (h : SqT K H a xs) : SqT K H' a xs := by
  rcases h with (h | ⟨o, h⟩) | h
  · exact .inl (.inl (e _ _ h))
  · exact .inl (.inr ⟨o, e _ _ h⟩)
  · exact .inr h
theorem Ex.seq {K : PySem.W.Frag} {S : Addr} {H H' : Hp} {a : Addr} {xs : List V} (e : Ex S H H') (n : a ≠ S) (h : SqL K H a xs) : SqL K H' a xs := by
  rcases h with (h | ⟨o, h⟩) | h
  · exact .inl (.inl (e _ _ n h))
  · exact .inl (.inr ⟨o, e _ _ n h⟩)
  · exact .inr h
theorem Ex.tup {K : PySem.W.Frag} {S : Addr} {H H' : Hp} {a : Addr} {xs : List V} (e : Ex S H H') (n : a ≠ S) (h : SqT K H a xs) : SqT K H' a xs := by
  rcases h with (h | ⟨o, h⟩) | h
  · exact .inl (.inl (e _ _ n h))
  · exact .inl (.inr ⟨o, e _ _ n h⟩)
  · exact .inr h
theorem sql {K : PySem.W.Frag} {H : Hp} {a : Addr} {xs : List V} (h : H a = some (.lst xs)) : SqL K H a xs := .inl (.inl h)
theorem sqt {K : PySem.W.Frag} {H : Hp} {a : Addr} {xs : List V} (h : H a = some (.tup xs)) : SqT K H a xs := .inl (.inl h)

theorem seq' {K : PySem.W.Frag} {H H' : Hp} {a : Addr} {xs : List V} (h : SqL K H a xs) (e : Same H H') : SqL K H' a xs := e.seq h
theorem tup' {K : PySem.W.Frag} {H H' : Hp} {a : Addr} {xs : List V} (h : SqT K H a xs) (e : Same H H') : SqT K H' a xs := same_tup e h
theorem same_at {H H' : Hp} {a : Addr} {o : HO} (e : Same H H') (h : H a = some o) : H' a = some o := e _ _ h
theorem ex_at {S : Addr} {H H' : Hp} {a : Addr} {o : HO} (e : Ex S H H') (n : a ≠ S) (h : H a = some o) : H' a = some o := e _ _ n h
theorem ne_nn {H : Hp} {a b : Addr} {o : HO} (h' : H b = none) (h : H a = some o) : a ≠ b := ne_of_none h h'
theorem ne_nn' {H : Hp} {a b : Addr} {o : HO} (h' : H b = none) (h : H a = some o) : b ≠ a := (ne_of_none h h').symm
section
variable {K : PySem.W.Frag} {σ : L2.St} {H : Hp} {tb te : TE} {c : TT} {Q : VK} {g : TG} {vs : List Nat}
theorem c_lcT (h : te σ H fun x H1 => ∃ a, x = .ref a ∧ (∃ xs, SqT K H1 a xs) ∧ ∀ D, H1 D = none → ∃ W : Nat → Nat → Hp → Prop, (∃ m, W 0 m (upd H1 D (.lst []))) ∧ ∀ i m G, W i m G →
      ((Itt K a).stop i G ∧ Q (.ref D) G) ∨ ((Itt K a).go i G ∧ ∃ Nx : Hp → Prop, (∀ G', Nx G' → ∃ m', m' < m ∧ W (i + 1) m' G') ∧ ∀ x G', (Itt K a).yld i G x G' → g x (wipe σ vs) G' fun σ2 H2 => wipe σ2 vs = wipe σ vs ∧ c σ2 H2 fun b H3 =>
        if b = true then tb σ2 H3 fun y H4 => ∃ acc, H4 D = some (.lst acc) ∧ acc.length < sizeLine ∧ Nx (upd H4 D (.lst (acc ++ [y]))) else Nx H3)) : tLc (iTup K te) g c tb vs σ H Q := h
theorem c_lcL (h : te σ H fun x H1 => ∃ a, x = .ref a ∧ (∃ xs, SqL K H1 a xs) ∧ ∀ D, H1 D = none → ∃ W : Nat → Nat → Hp → Prop, (∃ m, W 0 m (upd H1 D (.lst []))) ∧ ∀ i m G, W i m G →
      ((Itl K a).stop i G ∧ Q (.ref D) G) ∨ ((Itl K a).go i G ∧ ∃ Nx : Hp → Prop, (∀ G', Nx G' → ∃ m', m' < m ∧ W (i + 1) m' G') ∧ ∀ x G', (Itl K a).yld i G x G' → g x (wipe σ vs) G' fun σ2 H2 => wipe σ2 vs = wipe σ vs ∧ c σ2 H2 fun b H3 =>
        if b = true then tb σ2 H3 fun y H4 => ∃ acc, H4 D = some (.lst acc) ∧ acc.length < sizeLine ∧ Nx (upd H4 D (.lst (acc ++ [y]))) else Nx H3)) : tLc (iList K te) g c tb vs σ H Q := h
theorem c_lcR {ta : TA} (h : ta σ H fun us H1 => ∃ j : Int, us = [.int j] ∧ -(2 ^ 62) ≤ j ∧ j < 2 ^ 62 ∧ ∀ D, H1 D = none → ∃ W : Nat → Nat → Hp → Prop, (∃ m, W 0 m (upd H1 D (.lst []))) ∧ ∀ i m G, W i m G →
      ((Itr 0 j.toNat).stop i G ∧ Q (.ref D) G) ∨ ((Itr 0 j.toNat).go i G ∧ ∃ Nx : Hp → Prop, (∀ G', Nx G' → ∃ m', m' < m ∧ W (i + 1) m' G') ∧ ∀ x G', (Itr 0 j.toNat).yld i G x G' → g x (wipe σ vs) G' fun σ2 H2 => wipe σ2 vs = wipe σ vs ∧ c σ2 H2 fun b H3 =>
        if b = true then tb σ2 H3 fun y H4 => ∃ acc, H4 D = some (.lst acc) ∧ acc.length < sizeLine ∧ Nx (upd H4 D (.lst (acc ++ [y]))) else Nx H3)) : tLc (iRng1 ta) g c tb vs σ H Q := h
theorem c_yes {R : Bool → Hp → Prop} (h : R true H) : tYes σ H R := h
theorem in_bl (b : Bool) : ∀ bs : List Bool, inV (.bl b) (bs.map V.bl) = bs.contains b
  | [] => rfl
  | x :: r => by
    have ih := in_bl b r
    unfold inV at ih ⊢
    rw [List.map_cons, List.any_cons, ih, List.contains_cons]
    congr 1
    cases b <;> cases x <;> rfl
theorem flat_bl : ∀ bs : List Bool, (bs.map V.bl).all flatV = true
  | [] => rfl
  | x :: r => by
    rw [List.map_cons, List.all_cons, flat_bl r]
    rfl
end
/-! x is True, x is False where x may be None -/
def rIsW : R2 := fun x y H Q => ∃ b : Bool, y = .bl b ∧ (x = .non ∨ ∃ a, x = .bl a) ∧ Q (.bl (decide (x = .bl b))) H
def rNotW : R2 := fun x y H Q => ∃ b : Bool, y = .bl b ∧ (x = .non ∨ ∃ a, x = .bl a) ∧ Q (.bl (!decide (x = .bl b))) H
theorem op_isW {X : Cx} : OpR X (compareOp .Is) rIsW := by
  intro pins s σ H x y v u Q I rx ry h
  obtain ⟨b, rfl, hx, q⟩ := h
  cases (show u = Value.bool b from ry)
  rcases hx with rfl | ⟨a, rfl⟩
  · cases (show v = Value.none from rx)
    exact wpAny_is_other rfl (fun z => nomatch z) ⟨.bl false, H, I, rfl, by simpa using q⟩
  · cases (show v = Value.bool a from rx)
    by_cases e : a = b
    · subst e
      exact wpAny_is_self rfl ⟨.bl true, H, I, rfl, by simpa using q⟩
    · exact wpAny_is_other rfl (fun z => e (Value.bool.inj z)) ⟨.bl false, H, I, rfl, by simpa [e] using q⟩
theorem op_notW {X : Cx} : OpR X (compareOp .IsNot) rNotW := by
  intro pins s σ H x y v u Q I rx ry h
  obtain ⟨b, rfl, hx, q⟩ := h
  cases (show u = Value.bool b from ry)
  rcases hx with rfl | ⟨a, rfl⟩
  · cases (show v = Value.none from rx)
    exact wpAny_isNot_other rfl (fun z => nomatch z) ⟨.bl true, H, I, rfl, by simpa using q⟩
  · cases (show v = Value.bool a from rx)
    by_cases e : a = b
    · subst e
      exact wpAny_isNot_self rfl ⟨.bl false, H, I, rfl, by simpa using q⟩
    · exact wpAny_isNot_other rfl (fun z => e (Value.bool.inj z)) ⟨.bl true, H, I, rfl, by simpa [e] using q⟩
theorem r_isW {x : V} {b : Bool} {H : Hp} {Q : VK} (hx : x = .non ∨ ∃ a, x = .bl a) (q : Q (.bl (decide (x = .bl b))) H) : rIsW x (.bl b) H Q := ⟨b, rfl, hx, q⟩
theorem r_notW {x : V} {b : Bool} {H : Hp} {Q : VK} (hx : x = .non ∨ ∃ a, x = .bl a) (q : Q (.bl (!decide (x = .bl b))) H) : rNotW x (.bl b) H Q := ⟨b, rfl, hx, q⟩

/-! ### more steps: slices, truths that may be None, what is no list stays -/
section
variable {K : PySem.W.Frag} {σ : L2.St} {H : Hp} {ta te : TE} {Q : VK}
theorem c_sl {r : V → Option Int → Option Int → Hp → VK → Prop} {tl th : TO} (h : te σ H fun x H1 => tl σ H1 fun l H2 => th σ H2 fun u H3 => r x l u H3 Q) : tSl r te tl th σ H Q := h
theorem c_noPart {Q : Option Int → Hp → Prop} (h : Q none H) : tNoPart σ H Q := h
theorem c_part {Q : Option Int → Hp → Prop} (h : te σ H fun x H1 => ∃ i, x = .int i ∧ Q (some i) H1) : tPart te σ H Q := h
theorem r_slL {p : Addr} {xs : List V} {lo hi : Option Int} (hx : SqL K H p xs) (h : ∀ q, H q = none → Q (.ref q) (upd H q (.lst (cutV xs lo hi)))) : rSlL K (.ref p) lo hi H Q := ⟨p, xs, rfl, hx, h⟩
theorem r_slT {p : Addr} {xs : List V} {lo hi : Option Int} (hx : SqT K H p xs) (hn : ¬ (HT.sIx xs.length 0 lo = 0 ∧ HT.sIx xs.length xs.length hi = xs.length)) (h : ∀ q, H q = none → Q (.ref q) (upd H q (.tup (cutV xs lo hi)))) : rSlT K (.ref p) lo hi H Q := ⟨p, xs, rfl, hx, hn, h⟩
theorem r_cat {p q : Addr} {xs ys : List V} (hx : H p = some (.lst xs)) (hy : H q = some (.lst ys)) (hl : xs.length + ys.length ≤ sizeLine) (h : ∀ r, H r = none → Q (.ref r) (upd H r (.lst (xs ++ ys)))) : rCat (.ref p) (.ref q) H Q := ⟨p, q, xs, ys, rfl, rfl, hx, hy, hl, h⟩
theorem r_catT {p q : Addr} {xs ys : List V} (hx : SqT K H p xs) (hy : SqT K H q ys) (hn : xs ≠ []) (hl : xs.length + ys.length ≤ sizeLine) (h1 : ys = [] → Q (.ref p) H) (h2 : ys ≠ [] → ∀ r, H r = none → Q (.ref r) (upd H r (.tup (xs ++ ys)))) : rCatT K (.ref p) (.ref q) H Q := ⟨p, q, xs, ys, rfl, rfl, hx, hy, hn, hl, h1, h2⟩
end
/-- a truth: None, or a bool -/
def tb : Option Bool → V
  | none => .non
  | some b => .bl b
theorem in_tb (x : Option Bool) : ∀ bs : List (Option Bool), inV (tb x) (bs.map tb) = bs.contains x
  | [] => rfl
  | y :: r => by
    have ih := in_tb x r
    unfold inV at ih ⊢
    rw [List.map_cons, List.any_cons, ih, List.contains_cons]
    congr 1
    rcases x with _ | x <;> rcases y with _ | y <;> first | rfl | (cases x <;> rfl) | (cases y <;> rfl) | (cases x <;> cases y <;> rfl)
theorem flat_tb : ∀ bs : List (Option Bool), (bs.map tb).all flatV = true
  | [] => rfl
  | x :: r => by
    rw [List.map_cons, List.all_cons, flat_tb r]
    cases x <;> rfl
theorem tb_or (x : Option Bool) : tb x = .non ∨ ∃ a, tb x = .bl a := by
  cases x with
  | none => exact .inl rfl
  | some b => exact .inr ⟨b, rfl⟩
theorem tb_true (x : Option Bool) : decide (tb x = .bl true) = decide (x = some true) := by
  rcases x with _ | x
  · simp [tb]
  · cases x <;> simp [tb]
/-- what is no list stays -/
def Tp (H H' : Hp) : Prop := ∀ a o, H a = some o → (∀ ys, o ≠ .lst ys) → H' a = some o
theorem Tp.refl (H : Hp) : Tp H H := fun _ _ h _ => h
theorem Tp.trans {H H1 H2 : Hp} (a : Tp H H1) (b : Tp H1 H2) : Tp H H2 := fun x o h n => b x o (a x o h n) n
theorem Tp.same {H H1 : Hp} (s : Same H H1) : Tp H H1 := fun x o h _ => s x o h
theorem Tp.ex {S : Addr} {H H1 : Hp} {xs : List V} (e : Ex S H H1) (h : H S = some (.lst xs)) : Tp H H1 := fun x o hx n => e x o (fun z => by
  subst z
  rw [h] at hx
  exact n _ (Option.some.inj hx).symm) hx
theorem Tp.lst {H H1 : Hp} {p : Addr} {xs : List V} {o : HO} (e : Tp H H1) (h : H1 p = some (.lst xs)) : Tp H (upd H1 p o) := fun x u hx n => by
  have h2 := e x u hx n
  by_cases z : x = p
  · subst z
    rw [h] at h2
    exact absurd (Option.some.inj h2).symm (n _)
  · rw [upd_ne z]
    exact h2
theorem Tp.new {H H1 : Hp} {p : Addr} {o : HO} (e : Tp H H1) (h : H1 p = none) : Tp H (upd H1 p o) := fun x u hx n => by
  have h2 := e x u hx n
  rw [upd_ne (ne_of_none h2 h)]
  exact h2
theorem Tp.tup {K : PySem.W.Frag} {H H' : Hp} {a : Addr} {xs : List V} (e : Tp H H') (h : SqT K H a xs) : SqT K H' a xs := by
  rcases h with (h | ⟨o, h⟩) | h
  · exact .inl (.inl (e _ _ h (fun _ z => nomatch z)))
  · exact .inl (.inr ⟨o, e _ _ h (fun _ z => nomatch z)⟩)
  · exact .inr h
theorem Ex.free {S : Addr} {H H' : Hp} {q : Addr} (e : Ex S H H') (n : q ≠ S) (h : H' q = none) : H q = none := by
  cases z : H q with
  | none => rfl
  | some o =>
    have := e _ _ n z
    rw [h] at this
    cases this
/-! a test's outcome said by itself -/
def tMid (t : TT) : TT := fun σ H R => ∃ M : Bool → Hp → Prop, t σ H M ∧ ∀ b H', M b H' → R b H'
theorem pt_mid {X : Cx} {e : Expr} {t : TT} (h : PT X e t) : PT X e (tMid t) := ⟨fun pins s σ H Q I ⟨M, hm, k⟩ => thn (h.run pins s σ H M I hm) fun b s' ⟨H', I', q⟩ => ⟨H', I', k b H' q⟩⟩
theorem c_mid {t : TT} {σ : L2.St} {H : Hp} {R : Bool → Hp → Prop} (p : Prop) [Decidable p] (h : t σ H fun b H' => H' = H ∧ b = decide p) (h1 : p → R true H) (h2 : ¬ p → R false H) : tMid t σ H R :=
  ⟨_, h, fun b H' ⟨e1, e2⟩ => by
    subst e1 e2
    by_cases z : p
    · rw [decide_eq_true z]
      exact h1 z
    · rw [decide_eq_false z]
      exact h2 z⟩
theorem cut_to {xs ys : List V} {r : Int} (h : r = (xs.length : Int)) : cutV (xs ++ ys) none (some r) = xs := by
  subst h
  unfold cutV
  rw [HT.sIx_none, HT.sIx_nat, List.length_append, List.drop_zero, Nat.min_eq_left (by omega), Nat.sub_zero, List.take_left']
  rfl
theorem cut_from {xs ys : List V} {r : Int} (h : r = (xs.length : Int)) : cutV (xs ++ ys) (some r) none = ys := by
  subst h
  unfold cutV
  rw [HT.sIx_none, HT.sIx_nat, List.length_append, Nat.min_eq_left (by omega), List.drop_left', List.take_of_length_le (by omega)]
  rfl
theorem new_at {H H' : Hp} {p : Addr} {o : HO} (h : H p = none) (s : Same (upd H p o) H') : H' p = some o := s _ _ upd_same
theorem old_at {H H' : Hp} {p : Addr} {o : HO} (h : H p = some o) (s : Same H H') : H' p = some o := s _ _ h

/-! ### set(xs) of a list of ints -/
section
variable {P : Program} {w : World} {A : Around} {E : Value → Shared → Prop} {s : Shared}
abbrev emptySet (w : World) : Obj := { cls := .type "set", dict := none, data := .set #[] 0 (.fresh 0 0 (!w.params.followText "set-order")) }
theorem vals_at {zs : List Int} {items : Array Value} (h : IntsAre items.toList zs) (i : Nat) (v : Value) (e : items[i]? = some v) : ∃ k t, zs[i]? = some k ∧ v = .int k t := by
  have hl := IntsAre.length h
  rw [Array.length_toList] at hl
  have hi : i < zs.length := by
    have q := (Array.getElem?_eq_some_iff.mp e).1
    omega
  obtain ⟨t, z⟩ := PyProof.Rows.IntsAre.int_at h i v (by rw [Array.getElem?_toList]; exact e)
  refine ⟨zs[i], t, List.getElem?_eq_getElem hi, z.trans ?_⟩
  rw [List.getD_eq_getElem?_getD, List.getElem?_eq_getElem hi]
  rfl
/-- what the update leaves -/
def Made (w : World) (s : Shared) (zs : List Int) (r : Value) (s2 : Shared) : Prop := r = .none ∧ ∃ (h2 : Heap) (tk c : Nat), s2 = { s with heap := h2, toks := tk } ∧ SetR w h2 s.heap.objs.size (fun j => decide (j ∈ zs)) c ∧ c ≤ zs.length ∧ ∀ b o, s.heap.get? b = some o → h2.get? b = some o
theorem init_from {l : Addr} {items : Array Value} (zs : List Int) (calm : A.handled = none) (there : s.heap.IsList l items) (its : IntsAre items.toList zs) (room : zs.length + 1 < scanBound) :
    codeAny (model P w) A (.call (.builtin "set.__init__") ⟨[.ref s.heap.objs.size, .ref l], []⟩) (wants (Made w s zs) E) { s with heap := s.heap.push (emptySet w) } := by
  have same : items.size = zs.length := by
    have q := IntsAre.length its
    rwa [Array.length_toList] at q
  have hS : (s.heap.push (emptySet w)).get? s.heap.objs.size = some (emptySet w) := Heap.get?_push_size _ rfl
  have hT : Shared.TypeIs { s with heap := s.heap.push (emptySet w) } (.ref s.heap.objs.size) "set" := ⟨_, hS, rfl⟩
  refine codeAny_call_builtin F.called_set.init.plain F.entry_set_init (check_set_init_1 hT ?_)
  obtain ⟨⟨c0, d0, b0, s0⟩, got, isL, num, isS⟩ := there
  dsimp only at isL isS
  subst isL isS
  have lt : l < s.heap.objs.size := Heap.lt_size got
  have got' : (s.heap.push (emptySet w)).get? l = some { cls := .type "list", dict := d0, data := .seq items num, slots := s0 } := Heap.get?_push_of_some _ got
  have notS := F.sub_list_set
  have notF := F.sub_list_frozenset
  have notD : (Value.type "list" == Value.type "dict") = false := by decide
  have there' : (s.heap.push (emptySet w)).IsList l items := ⟨_, got', rfl, num, rfl⟩
  unfold Builtin.«set.__init__» noKeywords Builtin.Frozenset.updateFrom
  generalize hit : pyIter = PIt
  wp_walk
  subst hit
  refine wpAny_pyIter_list there' ?_
  refine wpAny_bind (wpAny_runValue ?_)
  have grown : (s.heap.push (emptySet w)).objs.size = s.heap.objs.size + 1 := Heap.size_push ..
  have apart : l ≠ (s.heap.push (emptySet w)).objs.size := by
    rw [grown]
    exact Nat.ne_of_lt (Nat.lt_succ_of_lt lt)
  have calm3 : A.in1.in1.handled = none := by simp [calm]
  refine set_update_ints ((Walks.list calm3 _ l apart items).toS) s.heap.objs.size ?out zs same room (fun i v e => vals_at its i v e) items.size 0 _ (Nat.sub_zero _) (Nat.zero_le _) ?stands ?start ?rest
  case stands => exact ⟨⟨_, Heap.get?_push_size _ rfl, rfl, rfl⟩, there'.push _⟩
  case start =>
    refine ⟨0, Nat.le_refl 0, setR_new_at ?_⟩
    exact Heap.get?_push_of_some _ hS
  case out =>
    rw [grown]
    simp only [List.mem_cons, List.not_mem_nil, or_false, not_or]
    exact ⟨Nat.ne_of_lt (Nat.lt_succ_self _), (Nat.ne_of_lt lt).symm⟩
  case rest =>
    rintro ⟨h2, g2, d2, t2, o2⟩ c moved few made
    have eg : g2 = s.gens := moved.gens
    have ed : d2 = s.drawn := moved.drawn
    have eo : o2 = s.os := moved.os
    subst eg ed eo
    refine wpAny_pure (wpAny_pure ⟨rfl, h2, t2, c, rfl, made, by omega, fun b o e => ?_⟩)
    have lb := Heap.lt_size e
    refine moved.heap b o ?_ (Heap.get?_push_of_some _ (Heap.get?_push_of_some _ e))
    rw [grown]
    simp only [List.mem_cons, List.not_mem_nil, or_false, not_or]
    exact ⟨Nat.ne_of_lt lb, Nat.ne_of_lt (Nat.lt_succ_of_lt lb)⟩
theorem set_from_list {l : Addr} {items : Array Value} (zs : List Int) {Q : Value → Shared → Prop} (calm : A.handled = none) (there : s.heap.IsList l items) (its : IntsAre items.toList zs) (room : zs.length + 1 < scanBound)
    (k : ∀ (h2 : Heap) (tk c : Nat), SetR w h2 s.heap.objs.size (fun j => decide (j ∈ zs)) c → c ≤ zs.length → (∀ b o, s.heap.get? b = some o → h2.get? b = some o) → Q (.ref s.heap.objs.size) { s with heap := h2, toks := tk }) :
    wpAny (model P w) A (call (.type "set") [.ref l]) Q E s := by
  have f1 := F.called_set.notType
  have f2 := F.called_set.canCreate
  have f3 := F.typeCall_set_1 (.ref l)
  have f4 := F.called_set.made
  have f5 := F.called_set.sub
  have f6 := F.called_set.init.lookup
  have f7 := F.called_set.init.bind (.ref s.heap.objs.size)
  obtain ⟨c0, tl, f8⟩ := F.called_set.mro
  have quiet : (Code.builtin "type.__call__" ⟨[.type "set", .ref l], []⟩).quiet = true := Code.quiet_builtin _ (by decide +kernel)
  refine wpAny_call (codeAny_of_tree (wpAny_pure ⟨quiet, codeAny_builtin PySem.F.entry_type_call ?_⟩))
  rw [Around.under_plain (weight_type_call_type "set" [.ref l] []) rfl]
  repeat (any_goals (first | assumption | wp_step))
  have fresh := code_set_led1 (P := P) (w := w) (A := A.in1) (s := s) (.ref l) (E := E) (Q₁ := fun x z => x = .ref s.heap.objs.size ∧ z = { s with heap := s.heap.push (emptySet w) }) ⟨rfl, rfl⟩
  refine codeAny_mono fresh ?_
  rintro (e | f) z hz
  · exact hz
  cases f with
  | ret x =>
    obtain ⟨rfl, rfl⟩ := hz
    have isSet : Shared.TypeIs { s with heap := s.heap.push (emptySet w) } (.ref s.heap.objs.size) "set" := ⟨_, Heap.get?_push_size _ rfl, rfl⟩
    repeat (any_goals (first | assumption | wp_step))
    refine codeAny_mono (init_from (E := E) zs (by simpa using calm) there its room) ?_
    rintro (e | f) z hz
    · exact hz
    cases f with
    | ret x =>
      obtain ⟨rfl, h2, tk, c, rfl, made, few, kept⟩ := hz
      repeat (any_goals (first | assumption | wp_step))
      exact k _ _ _ made few kept
    | _ => exact hz.elim
  | _ => exact hz.elim
end
section
variable {X : Cx}
/-- set(xs), xs a list of ints -/
def rSetOfI (K : PySem.W.Frag) (w : World) : List V → Hp → VK → Prop := fun vs H Q => ∃ (l : Addr) (zs : List Int), vs = [.ref l] ∧ SqL K H l (zs.map V.int) ∧ zs.length ≤ 1000 ∧ ∀ p c, H p = none → c ≤ zs.length → Q (.ref p) (upd H p (SetO w p (fun j => decide (j ∈ zs)) c))
theorem cr_setOfI (hc : X.calm = true) : CallR X (.type "set") (rSetOfI X.K X.w) := by
  intro pins s σ H vs us Q I r h
  obtain ⟨l, zs, rfl, there, few, q⟩ := h
  rw [Vals.ref1 r]
  obtain ⟨items, rv, pl, hz⟩ := I.list there
  refine set_from_list zs (I.ok.hd hc) pl.isList (by simpa using intsAre_of rv) (by unfold scanBound; omega) fun h2 tk c made fw kept => ?_
  exact ⟨.ref _, _, I.laid (a := s.heap.objs.size) (t' := tk) kept (Nat.le_refl _) (setO_new made), rfl, q _ c (I.hok.fresh (Nat.le_refl _)) fw⟩
end

/-! ### the stand-ins of ascending numbers -/
theorem free' {H H' : Hp} {p : Addr} (h : H' p = none) (s : Same H H') : H p = none := s.free h
def Asc (ms : List Int) : Prop := ms.Pairwise (· < ·)
theorem asc_ext : ∀ {xs ys : List Int}, Asc xs → Asc ys → (∀ z, z ∈ xs ↔ z ∈ ys) → xs = ys
  | [], [], _, _, _ => rfl
  | [], y :: ys, _, _, h => absurd ((h y).mpr List.mem_cons_self) (by simp)
  | x :: xs, [], _, _, h => absurd ((h x).mp List.mem_cons_self) (by simp)
  | x :: xs, y :: ys, hx, hy, h => by
    obtain ⟨h1, h2⟩ := List.pairwise_cons.mp hx
    obtain ⟨h3, h4⟩ := List.pairwise_cons.mp hy
    have e : x = y := by
      rcases List.mem_cons.mp ((h x).mp List.mem_cons_self) with a | a
      · exact a
      · rcases List.mem_cons.mp ((h y).mpr List.mem_cons_self) with b | b
        · exact b.symm
        · have := h1 y b
          have := h3 x a
          omega
    subst e
    have t := asc_ext h2 h4 fun z => by
      constructor
      · intro hz
        rcases List.mem_cons.mp ((h z).mp (List.mem_cons_of_mem _ hz)) with a | a
        · have := h1 z hz
          omega
        · exact a
      · intro hz
        rcases List.mem_cons.mp ((h z).mpr (List.mem_cons_of_mem _ hz)) with a | a
        · have := h3 z hz
          omega
        · exact a
    rw [t]
def nth0 (ms : List Int) (i : Nat) : Int := ms.getD i 0
theorem nth0_eq {ms : List Int} {i : Nat} (h : i < ms.length) : nth0 ms i = ms[i] := by
  unfold nth0
  rw [List.getD_eq_getElem?_getD, List.getElem?_eq_getElem h]
  rfl
theorem nth0_at {ms : List Int} {i : Nat} (h : i < ms.length) : (ms.map V.int)[i]? = some (.int (nth0 ms i)) := by
  rw [nth0_eq h, List.getElem?_map, List.getElem?_eq_getElem h]
  rfl
theorem nth0_lt {ms : List Int} (a : Asc ms) {i j : Nat} (h : i < j) (hj : j < ms.length) : nth0 ms i < nth0 ms j := by
  rw [nth0_eq (by omega), nth0_eq hj]
  exact List.pairwise_iff_getElem.mp a i j (by omega) hj h
theorem nth0_mem {ms : List Int} {z : Int} : z ∈ ms ↔ ∃ i, i < ms.length ∧ nth0 ms i = z := by
  constructor
  · intro h
    obtain ⟨i, hi, e⟩ := List.getElem_of_mem h
    exact ⟨i, hi, by rw [nth0_eq hi, e]⟩
  · rintro ⟨i, hi, e⟩
    rw [nth0_eq hi] at e
    rw [← e]
    exact List.getElem_mem hi
def gap (ms : List Int) (i : Nat) : Prop := i + 1 = ms.length ∨ 2 ≤ nth0 ms (i + 1) - nth0 ms i
instance (ms : List Int) (i : Nat) : Decidable (gap ms i) := by
  unfold gap
  infer_instance
def piece (ms : List Int) (i : Nat) : List Int := if gap ms i then [nth0 ms i, nth0 ms i + 1] else [nth0 ms i]
def stl (ms : List Int) : Nat → List Int
  | 0 => []
  | k + 1 => stl ms k ++ piece ms k
theorem stl_lt {ms : List Int} (a : Asc ms) : ∀ {k : Nat}, k < ms.length → ∀ z ∈ stl ms k, z < nth0 ms k
  | 0, _, z, hz => nomatch hz
  | k + 1, hk, z, hz => by
    have m := nth0_lt a (show k < k + 1 by omega) hk
    rcases List.mem_append.mp hz with hz | hz
    · have := stl_lt a (by omega) z hz
      omega
    · unfold piece at hz
      split at hz
      · rename_i g
        rcases g with g | g
        · omega
        · simp at hz
          omega
      · simp at hz
        omega
theorem stl_asc {ms : List Int} (a : Asc ms) : ∀ {k : Nat}, k ≤ ms.length → Asc (stl ms k)
  | 0, _ => List.Pairwise.nil
  | k + 1, hk => by
    refine List.pairwise_append.mpr ⟨stl_asc a (by omega), ?_, fun x hx y hy => ?_⟩
    · unfold piece
      split
      · simp
        omega
      · simp
    · have := stl_lt a hk x hx
      unfold piece at hy
      split at hy
      · simp at hy
        omega
      · simp at hy
        omega
theorem stl_mem {ms : List Int} {z : Int} : ∀ {k : Nat}, z ∈ stl ms k ↔ ∃ i, i < k ∧ (z = nth0 ms i ∨ (gap ms i ∧ z = nth0 ms i + 1))
  | 0 => by simp [stl]
  | k + 1 => by
    rw [stl, List.mem_append, stl_mem (k := k)]
    constructor
    · rintro (⟨i, hi, h⟩ | h)
      · exact ⟨i, by omega, h⟩
      · refine ⟨k, by omega, ?_⟩
        unfold piece at h
        split at h
        · rename_i g
          simp at h
          rcases h with h | h
          · exact .inl h
          · exact .inr ⟨g, h⟩
        · simp at h
          exact .inl h
    · rintro ⟨i, hi, h⟩
      by_cases e : i = k
      · subst e
        refine .inr ?_
        unfold piece
        rcases h with h | ⟨g, h⟩
        · split <;> simp [h]
        · rw [if_pos g]
          simp [h]
      · exact .inl ⟨i, by omega, h⟩
theorem stl_all {ms : List Int} (a : Asc ms) (z : Int) : z ∈ stl ms ms.length ↔ z ∈ ms ∨ z - 1 ∈ ms := by
  rw [stl_mem, nth0_mem, nth0_mem]
  constructor
  · rintro ⟨i, hi, h | ⟨_, h⟩⟩
    · exact .inl ⟨i, hi, h.symm⟩
    · exact .inr ⟨i, hi, by omega⟩
  · rintro (⟨i, hi, h⟩ | ⟨i, hi, h⟩)
    · exact ⟨i, hi, .inl h.symm⟩
    · by_cases g : gap ms i
      · exact ⟨i, hi, .inr ⟨g, by omega⟩⟩
      · unfold gap at g
        have m := nth0_lt a (show i < i + 1 by omega) (by omega)
        exact ⟨i + 1, by omega, .inl (by omega)⟩
theorem stl_len (ms : List Int) : ∀ k, (stl ms k).length ≤ 2 * k
  | 0 => Nat.le_refl _
  | k + 1 => by
    have := stl_len ms k
    rw [stl, List.length_append]
    unfold piece
    split <;> simp <;> omega
def sti (ms : List Int) : List V := if ms.length = 0 then [.non, .int 0] else .non :: .int (nth0 ms 0 - 1) :: (stl ms ms.length).map V.int
def spStarts (K : PySem.W.Frag) : Sp := fun vs H Q _ => ∃ (a : Addr) (ms : List Int), vs = [.ref a] ∧ SqL K H a (ms.map V.int) ∧ ms.length ≤ 25 ∧ Asc ms ∧ ∀ p H', H p = none → Same H H' → H' p = some (.lst ((stl ms ms.length).map V.int)) → Q (.ref p) H'
def spStandIns (K : PySem.W.Frag) : Sp := fun vs H Q _ => ∃ (a : Addr) (ms : List Int), vs = [.ref a] ∧ SqL K H a (ms.map V.int) ∧ ms.length ≤ 25 ∧ Asc ms ∧ ∀ p H', H p = none → Same H H' → H' p = some (.lst (sti ms)) → Q (.ref p) H'

/-! ### the stand-in of a value, and its class -/
theorem eqV_int (a b : Int) : eqV (.int a) (.int b) = (a == b) := rfl
theorem in_int (z : Int) : ∀ ms : List Int, inV (.int z) (ms.map V.int) = decide (z ∈ ms)
  | [] => rfl
  | x :: r => by
    have ih := in_int z r
    unfold inV at ih ⊢
    rw [List.map_cons, List.any_cons, ih, eqV_int]
    by_cases e : x = z
    · subst e
      simp
    · have e' : ¬ z = x := fun q => e q.symm
      simp [e, e']
theorem flat_int : ∀ ms : List Int, (ms.map V.int).all flatV = true
  | [] => rfl
  | x :: r => by
    rw [List.map_cons, List.all_cons, flat_int r]
    rfl
theorem in_mem {z : Int} {xs : List V} (h : V.int z ∈ xs) : inV (.int z) xs = true := by
  unfold inV
  rw [List.any_eq_true]
  exact ⟨_, h, by rw [eqV_int]; simp⟩
def oi : Option Int → V
  | none => .non
  | some z => .int z
def below (ms : List Int) (z : Int) : List Int := ms.filter fun n => decide (n < z)
def lst (ls : List Int) : Int := nth0 ls (ls.length - 1)
def cls (ms : List Int) (z : Int) : Int := 2 * ((below ms z).length : Int) + if z ∈ ms then 1 else 0
def clsO (ms : List Int) : Option Int → Int
  | none => -1
  | some z => cls ms z
def stn (ms : List Int) (z : Int) : Int := if z ∈ ms then z else if ms = [] then 0 else if below ms z = [] then nth0 ms 0 - 1 else lst (below ms z) + 1
def stnO (ms : List Int) (v : Option Int) : Option Int := v.map (stn ms)
theorem mem_below {ms : List Int} {z n : Int} : n ∈ below ms z ↔ n ∈ ms ∧ n < z := by simp [below]
theorem asc_below {ms : List Int} (a : Asc ms) (z : Int) : Asc (below ms z) := List.Pairwise.filter _ a
theorem nth0_le {ms : List Int} (a : Asc ms) {i j : Nat} (h : i ≤ j) (hj : j < ms.length) : nth0 ms i ≤ nth0 ms j := by
  rcases Nat.lt_or_ge i j with q | q
  · exact Int.le_of_lt (nth0_lt a q hj)
  · have : i = j := by omega
    subst this
    exact Int.le_refl _
theorem lst_mem {ls : List Int} (h : ls ≠ []) : lst ls ∈ ls := by
  have : 0 < ls.length := List.length_pos_iff.mpr h
  exact nth0_mem.mpr ⟨ls.length - 1, by omega, rfl⟩
theorem lst_max {ls : List Int} (a : Asc ls) {n : Int} (h : n ∈ ls) : n ≤ lst ls := by
  obtain ⟨i, hi, e⟩ := nth0_mem.mp h
  rw [← e]
  exact nth0_le a (by omega) (by omega)
theorem hd_min {ls : List Int} (a : Asc ls) {n : Int} (h : n ∈ ls) : nth0 ls 0 ≤ n := by
  obtain ⟨i, hi, e⟩ := nth0_mem.mp h
  rw [← e]
  exact nth0_le a (by omega) hi
theorem lst_at {ls : List Int} (h : ls ≠ []) : atI (ls.map V.int) (-1) = some (.int (lst ls)) := by
  have l : 0 < ls.length := List.length_pos_iff.mpr h
  unfold atI ixN
  rw [if_neg (by omega), if_pos (by rw [List.length_map]; omega), List.length_map]
  show (ls.map V.int)[((-1 : Int) + ls.length).toNat]? = _
  rw [show ((-1 : Int) + ls.length).toNat = ls.length - 1 by omega]
  exact nth0_at (by omega)
theorem lst_atL {ls : List Int} (h : ls ≠ []) : atI (ls.map V.int) ((ls.length : Int) - 1) = some (.int (lst ls)) := by
  have l : 0 < ls.length := List.length_pos_iff.mpr h
  rw [show ((ls.length : Int) - 1) = ((ls.length - 1 : Nat) : Int) by omega]
  exact atI_nat (nth0_at (by omega))
theorem stn_alike {ms : List Int} (a : Asc ms) {n z : Int} (h : n ∈ ms) : (z < n ↔ stn ms z < n) ∧ (z = n ↔ stn ms z = n) := by
  unfold stn
  by_cases hz : z ∈ ms
  · rw [if_pos hz]
    exact ⟨.rfl, .rfl⟩
  · have hne : z ≠ n := fun e => hz (e ▸ h)
    rw [if_neg hz, if_neg (List.ne_nil_of_mem h)]
    by_cases hb : below ms z = []
    · rw [if_pos hb]
      have q : ¬ n < z := fun q => by
        have := mem_below.mpr ⟨h, q⟩
        rw [hb] at this
        cases this
      have := hd_min a h
      constructor <;> constructor <;> intro _ <;> omega
    · rw [if_neg hb]
      have l := mem_below.mp (lst_mem hb)
      by_cases q : n < z
      · have := lst_max (asc_below a z) (mem_below.mpr ⟨h, q⟩)
        constructor <;> constructor <;> intro _ <;> omega
      · constructor <;> constructor <;> intro _ <;> omega
theorem below_congr {ms : List Int} {z y : Int} (h : ∀ n ∈ ms, n < z ↔ n < y) : below ms z = below ms y := List.filter_congr fun n hn => by simp [h n hn]
theorem cls_of {ms : List Int} {z y : Int} (h : ∀ n ∈ ms, n < z ↔ n < y) (m : z ∈ ms ↔ y ∈ ms) : cls ms z = cls ms y := by
  unfold cls
  rw [below_congr h]
  simp [m]
theorem cls_stn {ms : List Int} (a : Asc ms) (z : Int) : cls ms (stn ms z) = cls ms z := by
  refine cls_of (fun n hn => ?_) ⟨fun h => ?_, fun h => ?_⟩
  · have := stn_alike a hn (z := z)
    constructor <;> intro _ <;> omega
  · have := (stn_alike a h (z := z)).2.mpr rfl
    rw [this]
    exact h
  · have := (stn_alike a h (z := z)).2.mp rfl
    rw [this]
    exact h
theorem below_mono {ms : List Int} {z y : Int} (h : z ≤ y) : below ms z = (below ms y).filter fun n => decide (n < z) := by
  unfold below
  rw [List.filter_filter]
  refine List.filter_congr fun n _ => ?_
  by_cases q : n < z
  · simp [q]
    omega
  · simp [q]
theorem below_eq {ms : List Int} {z y : Int} (h : (below ms z).length = (below ms y).length) : below ms z = below ms y := by
  rcases Int.le_total z y with q | q
  · have e := below_mono (ms := ms) q
    have s : (below ms z).Sublist (below ms y) := by
      rw [e]
      exact List.filter_sublist
    exact s.eq_of_length h
  · have e := below_mono (ms := ms) q
    have s : (below ms y).Sublist (below ms z) := by
      rw [e]
      exact List.filter_sublist
    exact (s.eq_of_length h.symm).symm
theorem cls_parts {ms : List Int} {z y : Int} (h : cls ms z = cls ms y) : below ms z = below ms y ∧ (z ∈ ms ↔ y ∈ ms) := by
  unfold cls at h
  by_cases hz : z ∈ ms <;> by_cases hy : y ∈ ms
  · rw [if_pos hz, if_pos hy] at h
    exact ⟨below_eq (by omega), by simp [hz, hy]⟩
  · rw [if_pos hz, if_neg hy] at h
    omega
  · rw [if_neg hz, if_pos hy] at h
    omega
  · rw [if_neg hz, if_neg hy] at h
    exact ⟨below_eq (by omega), by simp [hz, hy]⟩
theorem cls_mem {ms : List Int} {z y : Int} (h : cls ms z = cls ms y) (hz : z ∈ ms) : z = y := by
  obtain ⟨e, m⟩ := cls_parts h
  have hy := m.mp hz
  rcases Int.lt_trichotomy z y with q | q | q
  · have := mem_below.mpr ⟨hz, q⟩
    rw [← e] at this
    have := (mem_below.mp this).2
    omega
  · exact q
  · have := mem_below.mpr ⟨hy, q⟩
    rw [e] at this
    have := (mem_below.mp this).2
    omega
theorem stn_cls {ms : List Int} {z y : Int} (h : cls ms z = cls ms y) : stn ms z = stn ms y := by
  by_cases hz : z ∈ ms
  · rw [cls_mem h hz]
  · obtain ⟨e, m⟩ := cls_parts h
    unfold stn
    rw [if_neg hz, if_neg (fun q => hz (m.mpr q)), e]
theorem stn_iff {ms : List Int} (a : Asc ms) {z y : Int} : stn ms z = stn ms y ↔ cls ms z = cls ms y :=
  ⟨fun h => by rw [← cls_stn a z, ← cls_stn a y, h], stn_cls⟩
theorem stn_stn {ms : List Int} (a : Asc ms) (z : Int) : stn ms (stn ms z) = stn ms z := stn_cls (cls_stn a z)
theorem cls_pos (ms : List Int) (z : Int) : 0 ≤ cls ms z := by
  unfold cls
  split <;> omega
theorem stnO_iff {ms : List Int} (a : Asc ms) : ∀ {v u : Option Int}, stnO ms v = stnO ms u ↔ clsO ms v = clsO ms u
  | none, none => by simp
  | none, some u => by
    have := cls_pos ms u
    simp [stnO, clsO]
    omega
  | some v, none => by
    have := cls_pos ms v
    simp [stnO, clsO]
    omega
  | some v, some u => by
    simp only [stnO, clsO, Option.map_some, Option.some.injEq]
    exact stn_iff a
theorem sti_mem {ms : List Int} (a : Asc ms) : ∀ v : Option Int, inV (oi (stnO ms v)) (sti ms) = true
  | none => by
    unfold sti
    split <;> rfl
  | some z => by
    refine in_mem (z := stn ms z) ?_
    unfold sti
    by_cases e : ms.length = 0
    · have e' := List.length_eq_zero_iff.mp e
      subst e'
      simp [stn]
    · rw [if_neg e]
      unfold stn
      have e' : ms ≠ [] := fun q => e (by rw [q]; rfl)
      by_cases hz : z ∈ ms
      · rw [if_pos hz]
        exact List.mem_cons_of_mem _ (List.mem_cons_of_mem _ (List.mem_map.mpr ⟨z, (stl_all a z).mpr (.inl hz), rfl⟩))
      · rw [if_neg hz, if_neg e']
        by_cases hb : below ms z = []
        · rw [if_pos hb]
          exact List.mem_cons_of_mem _ List.mem_cons_self
        · rw [if_neg hb]
          have l := mem_below.mp (lst_mem hb)
          refine List.mem_cons_of_mem _ (List.mem_cons_of_mem _ (List.mem_map.mpr ⟨_, (stl_all a _).mpr (.inr ?_), rfl⟩))
          rw [show lst (below ms z) + 1 - 1 = lst (below ms z) by omega]
          exact l.1
theorem flat_sti (ms : List Int) : (sti ms).all flatV = true := by
  unfold sti
  split
  · rfl
  · show (V.non :: V.int _ :: _).all flatV = true
    rw [List.all_cons, List.all_cons, flat_int]
    rfl
theorem dec_oi {v u : Option Int} : decide (oi v = oi u) = decide (v = u) := by
  cases v <;> cases u <;> simp [oi]
theorem scal_oi : ∀ v u : Option Int, scal (oi v) (oi u) = true
  | none, none => rfl
  | none, some _ => rfl
  | some _, none => rfl
  | some _, some _ => rfl
theorem flat_oi : ∀ v : Option Int, flatV (oi v) = true
  | none => rfl
  | some _ => rfl

/-! ### the classes of a stretch -/
def wth (ms : List Int) (lo hi : Int) : List Int := lo :: (stl ms ms.length).filter fun s => decide (lo < s) && decide (s ≤ hi)
theorem wth_mem {ms : List Int} (a : Asc ms) {lo hi z : Int} : z ∈ wth ms lo hi ↔ z = lo ∨ (lo < z ∧ z ≤ hi ∧ (z ∈ ms ∨ z - 1 ∈ ms)) := by
  unfold wth
  rw [List.mem_cons, List.mem_filter, stl_all a]
  simp
  constructor
  · rintro (h | ⟨h, h1, h2⟩)
    · exact .inl h
    · exact .inr ⟨h1, h2, h⟩
  · rintro (h | ⟨h1, h2, h⟩)
    · exact .inl h
    · exact .inr ⟨h, h1, h2⟩
theorem wth_asc {ms : List Int} (a : Asc ms) (lo hi : Int) : Asc (wth ms lo hi) := by
  refine List.pairwise_cons.mpr ⟨fun z hz => ?_, List.Pairwise.filter _ (stl_asc a (Nat.le_refl _))⟩
  have := (List.mem_filter.mp hz).2
  simp at this
  exact this.1
theorem wth_len (ms : List Int) (lo hi : Int) : (wth ms lo hi).length ≤ 1 + 2 * ms.length := by
  have h1 := stl_len ms ms.length
  have h2 := List.length_filter_le (fun s => decide (lo < s) && decide (s ≤ hi)) (stl ms ms.length)
  unfold wth
  rw [List.length_cons]
  omega
theorem filt_take {p : Int → Bool} {xs : List Int} {i : Nat} (h : i < xs.length) : (xs.take (i + 1)).filter p = (xs.take i).filter p ++ if p xs[i] = true then [xs[i]] else [] := by
  rw [List.take_succ_eq_append_getElem h, List.filter_append]
  by_cases q : p xs[i] = true
  · rw [if_pos q]
    simp [q]
  · rw [if_neg q]
    simp [q]
/-- one start of each class -/
theorem one_class {ms : List Int} (a : Asc ms) {lo hi v : Int} (h0 : lo ≤ v) (h1 : v ≤ hi) : ((wth ms lo hi).filter fun s => decide (cls ms s = cls ms v)).length = 1 := by
  have ex : ∃ s ∈ wth ms lo hi, cls ms s = cls ms v := by
    by_cases hv : v ∈ ms
    · refine ⟨v, (wth_mem a).mpr ?_, rfl⟩
      by_cases e : v = lo
      · exact .inl e
      · exact .inr ⟨by omega, h1, .inl hv⟩
    · by_cases hb : ∃ n ∈ ms, n < v ∧ lo ≤ n
      · obtain ⟨n0, hn0, q0, q1⟩ := hb
        have ne : below ms v ≠ [] := List.ne_nil_of_mem (mem_below.mpr ⟨hn0, q0⟩)
        have l := mem_below.mp (lst_mem ne)
        have mx : ∀ {n : Int}, n ∈ ms → n < v → n ≤ lst (below ms v) := fun h q => lst_max (asc_below a v) (mem_below.mpr ⟨h, q⟩)
        have q2 := mx hn0 q0
        refine ⟨lst (below ms v) + 1, (wth_mem a).mpr (.inr ⟨by omega, by omega, .inr (by rw [show lst (below ms v) + 1 - 1 = lst (below ms v) by omega]; exact l.1)⟩), ?_⟩
        refine cls_of (fun n hn => ⟨fun q => by omega, fun q => by have := mx hn q; omega⟩) ⟨fun h => ?_, fun h => absurd h hv⟩
        by_cases e : lst (below ms v) + 1 = v
        · exact absurd (e ▸ h) hv
        · have := mx h (by omega)
          omega
      · refine ⟨lo, (wth_mem a).mpr (.inl rfl), cls_of (fun n hn => ⟨fun q => by omega, fun q => ?_⟩) ⟨fun h => ?_, fun h => absurd h hv⟩⟩
        · by_cases e : lo ≤ n
          · exact absurd ⟨n, hn, q, e⟩ hb
          · omega
        · by_cases e : lo = v
          · exact e ▸ h
          · exact absurd ⟨lo, h, by omega, Int.le_refl _⟩ hb
  have un : ∀ {s t : Int}, s ∈ wth ms lo hi → t ∈ wth ms lo hi → s < t → cls ms s ≠ cls ms t := fun {s t} hs ht q e => by
    obtain ⟨eb, em⟩ := cls_parts e
    rcases (wth_mem a).mp ht with h | ⟨q1, q2, h | h⟩
    · rcases (wth_mem a).mp hs with g | g <;> omega
    · have := mem_below.mpr ⟨em.mpr h, q⟩
      rw [← eb] at this
      have := (mem_below.mp this).2
      omega
    · by_cases c : s = t - 1
      · subst c
        have := mem_below.mpr ⟨h, q⟩
        rw [← eb] at this
        have := (mem_below.mp this).2
        omega
      · have := mem_below.mpr (⟨h, by omega⟩ : t - 1 ∈ ms ∧ t - 1 < t)
        rw [← eb] at this
        have := (mem_below.mp this).2
        omega
  have fa : Asc ((wth ms lo hi).filter fun s => decide (cls ms s = cls ms v)) := List.Pairwise.filter _ (wth_asc a lo hi)
  obtain ⟨s, hs, es⟩ := ex
  have ms' : s ∈ (wth ms lo hi).filter fun s => decide (cls ms s = cls ms v) := List.mem_filter.mpr ⟨hs, by simpa using es⟩
  have all : ∀ t ∈ (wth ms lo hi).filter fun s => decide (cls ms s = cls ms v), t = s := fun t ht => by
    obtain ⟨g1, g2⟩ := List.mem_filter.mp ht
    have g2 : cls ms t = cls ms v := by simpa using g2
    rcases Int.lt_trichotomy t s with q | q | q
    · exact absurd (g2.trans es.symm) (un g1 hs q)
    · exact q
    · exact absurd (es.trans g2.symm) (un hs g1 q)
  have e : ((wth ms lo hi).filter fun s => decide (cls ms s = cls ms v)) = [s] := asc_ext fa (List.pairwise_singleton _ _) fun z => by
    rw [List.mem_singleton]
    exact ⟨all z, fun h => h ▸ ms'⟩
  rw [e]
  rfl
/-- what the law's own list holds -/
def addS (lo hi : Int) (f : List Int) (s : Int) : List Int := if (lo ≤ s ∧ s ≤ hi) ∧ s ∉ f then f ++ [s] else f
def fnd (ms : List Int) (lo hi : Int) : Nat → List Int
  | 0 => [lo]
  | i + 1 => [nth0 ms i, nth0 ms i + 1].foldl (addS lo hi) (fnd ms lo hi i)
theorem addS_mem {lo hi s z : Int} {f : List Int} : z ∈ addS lo hi f s ↔ z ∈ f ∨ (z = s ∧ lo ≤ s ∧ s ≤ hi) := by
  unfold addS
  split
  · rename_i h
    rw [List.mem_append, List.mem_singleton]
    exact ⟨fun g => g.elim .inl fun e => .inr ⟨e, h.1⟩, fun g => g.elim .inl fun e => .inr e.1⟩
  · rename_i h
    refine ⟨.inl, fun g => g.elim id fun e => ?_⟩
    by_cases q : s ∈ f
    · exact e.1 ▸ q
    · exact absurd ⟨e.2, q⟩ h
theorem addS_nodup {lo hi s : Int} {f : List Int} (h : f.Nodup) : (addS lo hi f s).Nodup := by
  unfold addS
  split
  · rename_i g
    rw [List.nodup_append]
    refine ⟨h, by simp, fun a ha b hb => ?_⟩
    rw [List.mem_singleton] at hb
    subst hb
    intro e
    subst e
    exact g.2 ha
  · exact h
theorem addS_len {lo hi s : Int} {f : List Int} : (addS lo hi f s).length ≤ f.length + 1 := by
  unfold addS
  split
  · simp
  · omega
theorem fnd_nodup (ms : List Int) (lo hi : Int) : ∀ i, (fnd ms lo hi i).Nodup
  | 0 => by simp [fnd]
  | i + 1 => addS_nodup (addS_nodup (fnd_nodup ms lo hi i))
theorem fnd_len (ms : List Int) (lo hi : Int) : ∀ i, (fnd ms lo hi i).length ≤ 1 + 2 * i
  | 0 => by simp [fnd]
  | i + 1 => by
    have := fnd_len ms lo hi i
    have h1 := addS_len (lo := lo) (hi := hi) (s := nth0 ms i) (f := fnd ms lo hi i)
    have h2 := addS_len (lo := lo) (hi := hi) (s := nth0 ms i + 1) (f := addS lo hi (fnd ms lo hi i) (nth0 ms i))
    show (addS lo hi (addS lo hi (fnd ms lo hi i) (nth0 ms i)) (nth0 ms i + 1)).length ≤ _
    omega
theorem fnd_mem {ms : List Int} {lo hi z : Int} : ∀ {k : Nat}, z ∈ fnd ms lo hi k ↔ z = lo ∨ (lo ≤ z ∧ z ≤ hi ∧ ∃ i, i < k ∧ (z = nth0 ms i ∨ z = nth0 ms i + 1))
  | 0 => by simp [fnd]
  | k + 1 => by
    show z ∈ addS lo hi (addS lo hi (fnd ms lo hi k) (nth0 ms k)) (nth0 ms k + 1) ↔ _
    rw [addS_mem, addS_mem, fnd_mem (k := k)]
    constructor
    · rintro (((h | ⟨h1, h2, i, hi, h⟩) | ⟨h, h1, h2⟩) | ⟨h, h1, h2⟩)
      · exact .inl h
      · exact .inr ⟨h1, h2, i, by omega, h⟩
      · exact .inr ⟨by omega, by omega, k, by omega, .inl h⟩
      · exact .inr ⟨by omega, by omega, k, by omega, .inr h⟩
    · rintro (h | ⟨h1, h2, i, hi, h⟩)
      · exact .inl (.inl (.inl h))
      · by_cases e : i = k
        · subst e
          rcases h with h | h
          · exact .inl (.inr ⟨h, by omega, by omega⟩)
          · exact .inr ⟨h, by omega, by omega⟩
        · exact .inl (.inl (.inr ⟨h1, h2, i, by omega, h⟩))
theorem sorted_fnd {ms zs : List Int} (a : Asc ms) {lo hi : Int} (hp : zs.Perm (fnd ms lo hi ms.length)) (hs : zs.Pairwise (· ≤ ·)) : zs = wth ms lo hi := by
  have nd : zs.Nodup := hp.nodup_iff.mpr (fnd_nodup ms lo hi _)
  have za : Asc zs := by
    have := List.Pairwise.and hs nd
    exact this.imp fun ⟨p, q⟩ => by omega
  refine asc_ext za (wth_asc a lo hi) fun z => ?_
  rw [hp.mem_iff, fnd_mem, wth_mem a, nth0_mem, nth0_mem]
  constructor
  · rintro (h | ⟨h1, h2, i, hi, h | h⟩)
    · exact .inl h
    · by_cases e : z = lo
      · exact .inl e
      · exact .inr ⟨by omega, h2, .inl ⟨i, hi, h.symm⟩⟩
    · by_cases e : z = lo
      · exact .inl e
      · exact .inr ⟨by omega, h2, .inr ⟨i, hi, by omega⟩⟩
  · rintro (h | ⟨h1, h2, ⟨i, hi, h⟩ | ⟨i, hi, h⟩⟩)
    · exact .inl h
    · exact .inr ⟨by omega, h2, i, hi, .inl h.symm⟩
    · exact .inr ⟨by omega, h2, i, hi, .inr (by omega)⟩

section Tac1
/-! ### the words: "rd" goes on as far as it can; "hp" finds what stands at an address; "t" "f" a test that is known -/
local macro_rules | `(tactic| walk_at "h0") => `(tactic| first | assumption | exact upd_same)
local macro_rules | `(tactic| walk_at "n0") => `(tactic| first
  | assumption | (apply Ne.symm; assumption) | exact ne_nn (by assumption) (by walk_at "h0") | exact ne_nn' (by assumption) (by walk_at "h0"))
local macro_rules | `(tactic| walk_at "hq") => `(tactic| first
  | assumption | exact upd_same | exact (upd_ne (by walk_at "n0")).trans (by walk_at "hq"))
local macro_rules | `(tactic| walk_at "ne") => `(tactic| first
  | assumption | (apply Ne.symm; assumption) | exact ne_nn (by assumption) (by walk_at "hq") | exact ne_nn' (by assumption) (by walk_at "hq"))
local macro_rules | `(tactic| walk_at "hp") => `(tactic| first
  | assumption
  | exact upd_same
  | exact (upd_ne (by walk_at "ne")).trans (by walk_at "hp")
  | exact same_at (by assumption) (by walk_at "hp")
  | exact ex_at (by assumption) (by walk_at "ne") (by walk_at "hp"))
local macro_rules | `(tactic| walk_at "sm") => `(tactic| first
  | assumption
  | exact Same.refl _
  | exact same_new (by walk_at "sm") (by assumption)
  | exact same_mut (by walk_at "sm") (by assumption))
local macro_rules | `(tactic| walk_at "ex") => `(tactic| first
  | assumption
  | exact Ex.refl _ _
  | exact Ex.new (by walk_at "ex") (by assumption)
  | exact Ex.mut (by walk_at "ex") (by assumption)
  | exact Ex.at (by walk_at "ex"))
local macro_rules | `(tactic| walk_at "sa") => `(tactic| first
  | assumption
  | exact seq' (by assumption) (by walk_at "sm")
  | exact tup' (by assumption) (by walk_at "sm"))
local macro_rules | `(tactic| walk_at "sq") => `(tactic| first
  | assumption
  | exact seq' (by assumption) (by walk_at "sm")
  | exact tup' (by assumption) (by walk_at "sm")
  | exact sql (by walk_at "hp")
  | exact sqt (by walk_at "hp"))
local macro_rules | `(tactic| walk_at "tt") => `(tactic| first | (simp; done) | (simp; omega))
local macro_rules | `(tactic| walk_at "tf") => `(tactic| first
  | ((with_reducible show if _ = true then _ else _); refine i_T (by walk_at "tt") ?_)
  | ((with_reducible show if _ = true then _ else _); refine i_F (by walk_at "tt") ?_))
local macro_rules | `(tactic| walk_at "ix") => `(tactic| first
  | exact ixn (j := 0) (by simp)
  | exact ixn (j := 1) (by simp)
  | exact ixn (j := 2) (by simp)
  | exact ixn (j := 3) (by simp)
  | exact ixn (j := 4) (by simp)
  | exact ixn (j := 5) (by simp)
  | exact ixn (j := 6) (by simp)
  | exact ixn (j := 7) (by simp))
local macro_rules | `(tactic| walk_at "at") => `(tactic| first
  | exact atI_nat (j := 0) (by rfl)
  | exact atI_nat (j := 1) (by rfl)
  | exact atI_nat (j := 2) (by rfl)
  | exact atI_nat (j := 3) (by rfl)
  | exact atI_nat (j := 4) (by rfl)
  | exact atI_nat (j := 5) (by rfl)
  | exact atI_nat (j := 6) (by rfl)
  | exact atI_nat (j := 7) (by rfl))
local macro_rules | `(tactic| walk_at "rd1") => `(tactic| first
  | with_reducible refine c_seq ?_
  | with_reducible refine c_asg ?_
  | ((with_reducible refine c_gname ?_); try dsimp only [List.set])
  | with_reducible refine c_ret ?_
  | with_reducible refine c_ifs ?_
  | ((with_reducible show tVar _ _ _ _); refine c_var (by rfl) ?_)
  | with_reducible refine c_c ?_
  | with_reducible refine c_op ?_
  | with_reducible refine c_un ?_
  | with_reducible refine c_test ?_
  | with_reducible refine c_B ?_
  | with_reducible refine c_CB ?_
  | with_reducible refine c_cons ?_
  | with_reducible refine c_nil ?_
  | with_reducible refine c_call ?_
  | with_reducible refine c_lst ?_
  | with_reducible refine c_tup ?_
  | with_reducible refine c_drop ?_
  | with_reducible refine c_gsub ?_
  | with_reducible refine c_BM ?_
  | with_reducible refine c_BM0 ?_
  | with_reducible refine c_and ?_
  | with_reducible refine c_or ?_
  | with_reducible refine c_not ?_
  | with_reducible refine c_andV ?_
  | with_reducible refine c_orV ?_
  | with_reducible refine c_notV ?_
  | with_reducible refine c_if ?_
  | with_reducible refine c_chain ?_
  | with_reducible refine c_next ?_
  | with_reducible refine c_retN ?_
  | with_reducible refine c_yes ?_
  | ((with_reducible show rIn _ _ (V.bl _) _ _ _); first | refine r_inL (by walk_at "sq") rfl (flat_bl _) ?_ | refine r_inL (by walk_at "sq") rfl (by rfl) ?_)
  | with_reducible refine r_I0 ?_
  | with_reducible refine r_U ?_
  | with_reducible refine r_eqI ?_
  | with_reducible refine r_neI ?_
  | with_reducible refine r_eqB ?_
  | with_reducible refine r_neB ?_
  | with_reducible refine r_eqS ?_
  | with_reducible refine r_neS ?_
  | ((with_reducible show rIxL _ _ (V.int (OfNat.ofNat _)) _ _); refine r_ixL (by walk_at "sq") (by walk_at "at") ?_)
  | ((with_reducible show rIxT _ _ (V.int (OfNat.ofNat _)) _ _); refine r_ixT (by walk_at "sq") (by walk_at "at") ?_)
  | ((with_reducible show rI CMul _ _ _ _ _); refine r_I (by first | exact .inl ⟨by omega, by omega⟩ | exact .inr ⟨by omega, by omega⟩) ?_)
  | ((with_reducible show rI CDiv _ _ _ _ _); refine r_I ⟨by omega, by omega⟩ ?_)
  | ((with_reducible show rI (fun _ _ => _) _ _ _ _ _); refine r_I (by first | assumption | omega | decide) ?_)
  | with_reducible refine r_pow18 ?_
  | with_reducible refine r_pow17 ?_
  | ((with_reducible show rSetL _ _ _ _ _); refine r_setL (by walk_at "hp") (by walk_at "ix") ?_; try dsimp only [List.set]; try simp only [upd_upd])
  | ((with_reducible show tyV _ _ _ _ ∧ _); refine ⟨.inl ⟨rfl, _, by walk_at "sq"⟩, ?_⟩)
  | ((with_reducible show rPop _ _ _ _); refine r_pop (by walk_at "hp") ?_)
  | ((with_reducible show rAppend _ _ _ _); refine r_app (by walk_at "hp") (by first | assumption | exact smallLt (by omega) | exact smallLt (by simp <;> omega)) ?_)
  | ((with_reducible show _ ≤ sizeLine ∧ _); refine ⟨small (by simp), ?_⟩)
  | ((with_reducible show V.non = V.non ∧ _); refine ⟨rfl, ?_⟩)
  | with_reducible refine iteT ?_
  | with_reducible refine iteF ?_
  | with_reducible refine ⟨_, rfl, ?_⟩
  | with_reducible refine ⟨_, _, rfl, ?_⟩
  | with_reducible refine Or.inl ⟨_, rfl, ?_⟩
  | with_reducible refine Or.inr ⟨_, rfl, ?_⟩
  | ((with_reducible show ∃ _ _, [_] = [_] ∧ _); first
    | refine ⟨_, _, rfl, Or.inl (by walk_at "sa"), ?_⟩ | refine ⟨_, _, rfl, Or.inr (by walk_at "sa"), ?_⟩
    | refine ⟨_, _, rfl, Or.inl (by exact sql (by walk_at "hp")), ?_⟩ | refine ⟨_, _, rfl, Or.inr (by exact sqt (by walk_at "hp")), ?_⟩))
local macro_rules | `(tactic| walk_at "nw") => `(tactic| (intro _ _))
local macro_rules | `(tactic| walk_at "rdn") => `(tactic| repeat (first | walk_at "rd1" | ((with_reducible show ∀ _ : Addr, _ = none → _); intro _ _)))
local macro_rules | `(tactic| walk_at "rd") => `(tactic| repeat walk_at "rd1")

def topS (i : Nat) : Stmt := PySem.Challenge.pw_wholepages_k15_within.main.body.getD i (.Pass ⟨0, 0, 0, 0⟩)
abbrev s_class_starts : Stmt := topS 1
abbrev N_class_starts : List Str := ["numbers", "number"]
theorem sc_class_starts : FnScope N_class_starts ["numbers"] (defScope s_class_starts) := ⟨rfl, rfl, rfl, by decide +kernel, rfl, by decide +kernel, by decide +kernel⟩
abbrev s_within : Stmt := topS 2
abbrev N_within : List Str := ["numbers", "low", "high", "start"]
theorem sc_within : FnScope N_within ["numbers", "low", "high"] (defScope s_within) := ⟨rfl, rfl, rfl, by decide +kernel, rfl, by decide +kernel, by decide +kernel⟩
abbrev s__law_stream : Stmt := topS 4
abbrev N__law_stream : List Str := ["_law_script"]
theorem sc__law_stream : FnScope N__law_stream ["_law_script"] (defScope s__law_stream) := ⟨rfl, rfl, rfl, by decide +kernel, rfl, by decide +kernel, by decide +kernel⟩
abbrev s__law_draw : Stmt := topS 5
abbrev N__law_draw : List Str := ["_law_stream_here", "_law_many", "_law_place", "_law_cell", "_law_number_here"]
theorem sc__law_draw : FnScope N__law_draw ["_law_stream_here", "_law_many"] (defScope s__law_draw) := ⟨rfl, rfl, rfl, by decide +kernel, rfl, by decide +kernel, by decide +kernel⟩
abbrev s__law_number : Stmt := topS 6
abbrev N__law_number : List Str := ["_law_stream_here", "_law_most", "_law_kind"]
theorem sc__law_number : FnScope N__law_number ["_law_stream_here", "_law_most"] (defScope s__law_number) := ⟨rfl, rfl, rfl, by decide +kernel, rfl, by decide +kernel, by decide +kernel⟩
abbrev s__law_ascending : Stmt := topS 7
abbrev N__law_ascending : List Str := ["_law_stream_here", "_law_most", "_law_numbers", "_law_last", "_law_k"]
theorem sc__law_ascending : FnScope N__law_ascending ["_law_stream_here", "_law_most"] (defScope s__law_ascending) := ⟨rfl, rfl, rfl, by decide +kernel, rfl, by decide +kernel, by decide +kernel⟩
abbrev s__law_near : Stmt := topS 8
abbrev N__law_near : List Str := ["_law_stream_here", "_law_numbers"]
theorem sc__law_near : FnScope N__law_near ["_law_stream_here", "_law_numbers"] (defScope s__law_near) := ⟨rfl, rfl, rfl, by decide +kernel, rfl, by decide +kernel, by decide +kernel⟩
abbrev s__law_class : Stmt := topS 9
abbrev N__law_class : List Str := ["_law_value", "_law_numbers", "_law_n"]
theorem sc__law_class : FnScope N__law_class ["_law_value", "_law_numbers"] (defScope s__law_class) := ⟨rfl, rfl, rfl, by decide +kernel, rfl, by decide +kernel, by decide +kernel⟩
abbrev s__law_alike : Stmt := topS 10
abbrev N__law_alike : List Str := ["_law_told", "_law_due", "_law_left", "_law_k", "_law_pair", "_law_one", "_law_two", "_law_at"]
theorem sc__law_alike : FnScope N__law_alike ["_law_told", "_law_due"] (defScope s__law_alike) := ⟨rfl, rfl, rfl, by decide +kernel, rfl, by decide +kernel, by decide +kernel⟩
abbrev s__law_least : Stmt := topS 11
abbrev N__law_least : List Str := ["_law_numbers", "_law_low", "_law_high", "_law_found", "_law_n", "_law_least_here"]
theorem sc__law_least : FnScope N__law_least ["_law_numbers", "_law_low", "_law_high"] (defScope s__law_least) := ⟨rfl, rfl, rfl, by decide +kernel, rfl, by decide +kernel, by decide +kernel⟩
abbrev s_law : Stmt := topS 12
abbrev N_law : List Str := ["_law_script", "_law_stream_here", "_law_numbers", "_law_kept", "_law_a", "_law_b", "_law_low", "_law_high", "_law_due", "_law_told", "_law_k", "_law_value", "_law_own", "_law_least_here"]
theorem sc_law : FnScope N_law ["_law_script"] (defScope s_law) := ⟨rfl, rfl, rfl, by decide +kernel, rfl, by decide +kernel, by decide +kernel⟩
structure Txt (K : PySem.W.Frag) (mg : Str → Option Value) : Type where
  a_class_starts : Addr
  d_class_starts : FuncData
  F_class_starts : Fun K "class_starts" "class_starts" s_class_starts a_class_starts d_class_starts
  b_class_starts : Binds K d_class_starts ["numbers"] []
  g_class_starts : mg "class_starts" = some (.ref a_class_starts)
  a_within : Addr
  d_within : FuncData
  F_within : Fun K "within" "within" s_within a_within d_within
  b_within : Binds K d_within ["numbers", "low", "high"] []
  g_within : mg "within" = some (.ref a_within)
  a_stream : Addr
  d_stream : FuncData
  F_stream : Fun K "_law_stream" "_law_stream" s__law_stream a_stream d_stream
  b_stream : Binds K d_stream ["_law_script"] []
  g_stream : mg "_law_stream" = some (.ref a_stream)
  a_draw : Addr
  d_draw : FuncData
  F_draw : Fun K "_law_draw" "_law_draw" s__law_draw a_draw d_draw
  b_draw : Binds K d_draw ["_law_stream_here", "_law_many"] []
  g_draw : mg "_law_draw" = some (.ref a_draw)
  a_number : Addr
  d_number : FuncData
  F_number : Fun K "_law_number" "_law_number" s__law_number a_number d_number
  b_number : Binds K d_number ["_law_stream_here", "_law_most"] []
  g_number : mg "_law_number" = some (.ref a_number)
  a_ascending : Addr
  d_ascending : FuncData
  F_ascending : Fun K "_law_ascending" "_law_ascending" s__law_ascending a_ascending d_ascending
  b_ascending : Binds K d_ascending ["_law_stream_here", "_law_most"] []
  g_ascending : mg "_law_ascending" = some (.ref a_ascending)
  a_near : Addr
  d_near : FuncData
  F_near : Fun K "_law_near" "_law_near" s__law_near a_near d_near
  b_near : Binds K d_near ["_law_stream_here", "_law_numbers"] []
  g_near : mg "_law_near" = some (.ref a_near)
  a_class : Addr
  d_class : FuncData
  F_class : Fun K "_law_class" "_law_class" s__law_class a_class d_class
  b_class : Binds K d_class ["_law_value", "_law_numbers"] []
  g_class : mg "_law_class" = some (.ref a_class)
  a_alike : Addr
  d_alike : FuncData
  F_alike : Fun K "_law_alike" "_law_alike" s__law_alike a_alike d_alike
  b_alike : Binds K d_alike ["_law_told", "_law_due"] []
  g_alike : mg "_law_alike" = some (.ref a_alike)
  a_least : Addr
  d_least : FuncData
  F_least : Fun K "_law_least" "_law_least" s__law_least a_least d_least
  b_least : Binds K d_least ["_law_numbers", "_law_low", "_law_high"] []
  g_least : mg "_law_least" = some (.ref a_least)
  z_abs : mg "abs" = none
  z_bool : mg "bool" = none
  z_int : mg "int" = none
  z_isinstance : mg "isinstance" = none
  z_len : mg "len" = none
  z_list : mg "list" = none
  z_max : mg "max" = none
  z_min : mg "min" = none
  z_range : mg "range" = none
  z_set : mg "set" = none
  z_sorted : mg "sorted" = none
  z_str : mg "str" = none
  z_tuple : mg "tuple" = none
/-! ### the law's stream of numbers -/
/-- at S the law's stream: the copy of the script at L, a place, a number, how many draws it still gives -/
structure Strm (S L : Addr) (ns : List Int) (H : Hp) : Prop where
  at_ : ∃ (p : Nat) (n k : Int), H S = some (.lst [.ref L, .int p, .int n, .int k]) ∧ p ≤ ns.length ∧ 0 ≤ n ∧ 0 ≤ k
  lst : H L = some (.lst (ns.map V.int))
  ne : L ≠ S
  len : ns.length ≤ 63
theorem strm_at {S L : Addr} {ns : List Int} {H : Hp} {q n c : Int} (eL : H L = some (.lst (ns.map V.int))) (ne : L ≠ S) (hl : ns.length ≤ 63) (h0 : 0 ≤ q) (h1 : q ≤ ns.length) (hn : 0 ≤ n) (hc : 0 ≤ c) : Strm S L ns (upd H S (.lst [.ref L, .int q, .int n, .int c])) :=
  ⟨⟨q.toNat, n, c, by rw [upd_same, Int.toNat_of_nonneg h0], by omega, hn, hc⟩, by rw [upd_ne ne]; exact eL, ne, hl⟩
theorem Strm.new {S L : Addr} {ns : List Int} {H : Hp} {p : Addr} {o : HO} (s : Strm S L ns H) (h : H p = none) : Strm S L ns (upd H p o) := by
  obtain ⟨⟨a, b, c, e, z⟩, l, n, q⟩ := s
  exact ⟨⟨a, b, c, by rw [upd_ne (ne_of_none e h)]; exact e, z⟩, by rw [upd_ne (ne_of_none l h)]; exact l, n, q⟩
theorem Strm.upd {S L : Addr} {ns : List Int} {H : Hp} {p : Addr} {o : HO} (s : Strm S L ns H) (h1 : p ≠ S) (h2 : p ≠ L) : Strm S L ns (upd H p o) := by
  obtain ⟨⟨a, b, c, e, z⟩, l, n, q⟩ := s
  exact ⟨⟨a, b, c, by rw [upd_ne h1.symm]; exact e, z⟩, by rw [upd_ne h2.symm]; exact l, n, q⟩
theorem Strm.same {S L : Addr} {ns : List Int} {H H' : Hp} (s : Strm S L ns H) (h : Same H H') : Strm S L ns H' := by
  obtain ⟨⟨a, b, c, e, z⟩, l, n, q⟩ := s
  exact ⟨⟨a, b, c, h _ _ e, z⟩, h _ _ l, n, q⟩
theorem Strm.neS {S L : Addr} {ns : List Int} {H : Hp} {p : Addr} (s : Strm S L ns H) (h : H p = none) : p ≠ S := by
  obtain ⟨⟨a, b, c, e, z⟩, l, n, q⟩ := s
  exact (ne_of_none e h).symm
theorem Strm.neL {S L : Addr} {ns : List Int} {H : Hp} {p : Addr} (s : Strm S L ns H) (h : H p = none) : p ≠ L := by
  obtain ⟨⟨a, b, c, e, z⟩, l, n, q⟩ := s
  exact (ne_of_none l h).symm
def spStream (K : PySem.W.Frag) : Sp := fun vs H Q _ => ∃ (a : Addr) (ns : List Int), vs = [.ref a] ∧ SqL K H a (ns.map V.int) ∧ ns.length ≤ 63 ∧ ∀ S L H', H S = none → Same H H' → Strm S L ns H' → Q (.ref S) H'
def spDraw : Sp := fun vs H Q _ => ∃ (S L : Addr) (ns : List Int) (m : Int), vs = [.ref S, .int m] ∧ Strm S L ns H ∧ 0 < m ∧ m.natAbs < 2 ^ 200 ∧ ∀ r H', 0 ≤ r → r < m → Ex S H H' → Strm S L ns H' → Q (.int r) H'
theorem use_draw {S L : Addr} {ns : List Int} {m : Int} {H : Hp} {Q : VK} {E : XK} (s : Strm S L ns H) (h0 : 0 < m) (h1 : m < 10 ^ 40) (k : ∀ r H', 0 ≤ r → r < m → Ex S H H' → Strm S L ns H' → Q (.int r) H') : spDraw [.ref S, .int m] H Q E :=
  ⟨S, L, ns, m, rfl, s, h0, by omega, k⟩
section
variable {P : Program} {w : World} {K : PySem.W.Frag} {mg : Str → Option Value} {base : Heap}
theorem ok_stream (T : Txt K mg) : FnOk P w K mg base CX0 1 T.a_stream T.d_stream ["_law_script"] (spStream K) := by
  refine T.F_stream.ok sc__law_stream (fun vs H Q E h => ?_) (fun cdv A outer s H vs Q E hr h => ⟨_, (pss_one (ps_ret (pe_lst (pa_cons (pe_callTy call_list_of (by rfl) T.z_list (by decide +kernel) (pa_cons (pv 0) pa_nil)) (pa_cons pe_int (pa_cons pe_int (pa_cons pe_int pa_nil))))))), ?_⟩)
  · first | (obtain ⟨rfl, _⟩ := h; rfl) | (obtain ⟨_, rfl, _⟩ := h; rfl) | (obtain ⟨_, _, rfl, _⟩ := h; rfl) | (obtain ⟨_, _, _, rfl, _⟩ := h; rfl) | (obtain ⟨_, _, _, _, rfl, _⟩ := h; rfl) | (obtain ⟨_, _, _, _, _, rfl, _⟩ := h; rfl) | (obtain ⟨_, _, _, _, _, _, rfl, _⟩ := h; rfl) | (obtain ⟨_, _, _, _, _, _, _, rfl, _⟩ := h; rfl) | (obtain ⟨_, _, _, _, _, _, _, _, rfl, _⟩ := h; rfl) | (obtain ⟨_, _, _, _, _, _, _, _, _, rfl, _⟩ := h; rfl) | (obtain ⟨_, _, _, _, _, _, _, _, _, _, rfl, _⟩ := h; rfl) | (obtain ⟨_, _, _, _, _, _, _, _, _, _, _, rfl, _⟩ := h; rfl) | (obtain ⟨_, _, _, _, _, _, _, _, _, _, _, _, rfl, _⟩ := h; rfl) | (obtain ⟨_, _, _, _, _, _, _, _, _, _, _, _, _, rfl, _⟩ := h; rfl) | (obtain ⟨_, _, _, _, _, _, _, _, _, _, _, _, _, _, rfl, _⟩ := h; rfl)
  · obtain ⟨a, ns, rfl, hS, hl, k⟩ := h
    try dsimp only [cxOf, Cx.nox, Cx.wish]
    refine st_of (σ := [some _]) rfl ?_
    walk_at "rd"
    intro L hL
    walk_at "rd"
    intro S hs
    have hs' : H S = none := by
      by_cases e : S = L
      · rw [e, upd_same] at hs
        cases hs
      · rw [upd_ne e] at hs
        exact hs
    refine k S L _ hs' (by walk_at "sm") ⟨⟨0, 0, 0, upd_same, Nat.zero_le _, Int.le_refl _, Int.le_refl _⟩, ?_, ?_, hl⟩
    · have e : L ≠ S := ne_of_none upd_same hs
      rw [upd_ne e]
      exact upd_same
    · exact ne_of_none upd_same hs
theorem ok_draw (T : Txt K mg) : FnOk P w K mg base CX0 1 T.a_draw T.d_draw ["_law_stream_here", "_law_many"] (spDraw) := by
  refine T.F_draw.ok sc__law_draw (fun vs H Q E h => ?_) (fun cdv A outer s H vs Q E hr h => ⟨_, (Evl.pss_cut (ps_if (PW.pt (pw_and (PW.pt (pw_or (pt_cmpR op_eq (pe_ix ix_list (pv 0) pe_int (fun _ _ => rfl)) pe_int (nomark _)) (pw_or1 (pt_cmpR op_eq (pe_ix ix_list (pv 0) pe_int (fun _ _ => rfl)) pe_int (nomark _))))) (pw_and1 (pt_cmpR op_lt (pe_ix ix_list (pv 0) pe_int (fun _ _ => rfl)) (pe_callB call_len_seq (by rfl) T.z_len PySem.boot_len (pa_cons (pe_ix ix_list (pv 0) pe_int (fun _ _ => rfl)) pa_nil)) (nomark _)))))
      (pss_cons (ps_set (i := 2) sc__law_draw.nd rfl (.inl rfl) (pe_ix ix_list (pv 0) pe_int (fun _ _ => rfl)))
      (pss_cons (ps_set (i := 3) sc__law_draw.nd rfl (.inl rfl) (pe_ix ix_list (pe_ix ix_list (pv 0) pe_int (fun _ _ => rfl)) (pv 2) (fun _ _ => rfl)))
      (pss_cons (ps_set (i := 4) sc__law_draw.nd rfl (.inl rfl) (pe_op op_add (pe_op op_mul pe_int (pe_callB call_abs (by rfl) T.z_abs (by decide +kernel) (pa_cons (pv 3) pa_nil))) (pe_callTy call_int1 (by rfl) T.z_int (by decide +kernel) (pa_cons (pe_cmpR op_lt (pv 3) pe_int (nomark _)) pa_nil))))
      (pss_cons (ps_if (pt_cmpR op_lt (pv 4) (pe_op op_mul pe_int (pe_op op_pow pe_int pe_int)) (nomark _))
      (pss_cons (ps_set (i := 4) sc__law_draw.nd rfl (.inl rfl) (pe_op op_mod (pe_callTy call_int1 (by rfl) T.z_int (by decide +kernel) (pa_cons (pe_op op_add (pe_op op_mul (pv 4) pe_int) (pe_op op_mul (pe_op op_add (pe_op op_mul (pv 2) (pv 2)) pe_int) pe_int)) pa_nil)) pe_int))
      (pss_one (ps_set (i := 4) sc__law_draw.nd rfl (.inl rfl) (pe_op op_mod (pe_callTy call_int1 (by rfl) T.z_int (by decide +kernel) (pa_cons (pe_op op_add (pe_op op_add (pe_op op_mul (pe_op op_mul (pv 4) (pv 4)) pe_int) (pe_op op_mul (pv 4) pe_int)) pe_int) pa_nil)) pe_int))))
      pss_nil)
      (pss_cons (ps_asg (pe_op op_add (pv 2) pe_int) (pg_sub (pv 0) pe_int set_list))
      (pss_cons (ps_asg (pv 4) (pg_sub (pv 0) pe_int set_list))
      (pss_one (ps_asg pe_int (pg_sub (pv 0) pe_int set_list)))))))))
      pss_nil)
      (pss_cons (ps_if (pt_cmpR op_eq (pe_ix ix_list (pv 0) pe_int (fun _ _ => rfl)) pe_int (nomark _))
      (pss_one (ps_ret pe_int))
      pss_nil)
      (pss_cons (ps_set (i := 4) sc__law_draw.nd rfl (.inl rfl) (pe_ix ix_list (pv 0) pe_int (fun _ _ => rfl)))
      (pss_cons (ps_asg (pe_op op_fdivW (pv 4) (pv 1)) (pg_sub (pv 0) pe_int set_list))
      (pss_cons (ps_asg (pe_op op_sub (pe_ix ix_list (pv 0) pe_int (fun _ _ => rfl)) pe_int) (pg_sub (pv 0) pe_int set_list))
      (pss_one (ps_ret (pe_op op_mod (pe_callTy call_int1 (by rfl) T.z_int (by decide +kernel) (pa_cons (pv 4) pa_nil)) (pv 1))))))))), ?_⟩)
  · first | (obtain ⟨rfl, _⟩ := h; rfl) | (obtain ⟨_, rfl, _⟩ := h; rfl) | (obtain ⟨_, _, rfl, _⟩ := h; rfl) | (obtain ⟨_, _, _, rfl, _⟩ := h; rfl) | (obtain ⟨_, _, _, _, rfl, _⟩ := h; rfl) | (obtain ⟨_, _, _, _, _, rfl, _⟩ := h; rfl) | (obtain ⟨_, _, _, _, _, _, rfl, _⟩ := h; rfl) | (obtain ⟨_, _, _, _, _, _, _, rfl, _⟩ := h; rfl) | (obtain ⟨_, _, _, _, _, _, _, _, rfl, _⟩ := h; rfl) | (obtain ⟨_, _, _, _, _, _, _, _, _, rfl, _⟩ := h; rfl) | (obtain ⟨_, _, _, _, _, _, _, _, _, _, rfl, _⟩ := h; rfl) | (obtain ⟨_, _, _, _, _, _, _, _, _, _, _, rfl, _⟩ := h; rfl) | (obtain ⟨_, _, _, _, _, _, _, _, _, _, _, _, rfl, _⟩ := h; rfl) | (obtain ⟨_, _, _, _, _, _, _, _, _, _, _, _, _, rfl, _⟩ := h; rfl) | (obtain ⟨_, _, _, _, _, _, _, _, _, _, _, _, _, _, rfl, _⟩ := h; rfl)
  · obtain ⟨S, L, ns, m, rfl, hS, h0, h1, k⟩ := h
    try dsimp only [cxOf, Cx.nox, Cx.wish]
    refine st_of (σ := [some _, some _, none, none, none]) rfl ?_
    obtain ⟨⟨p, n, c, eS, hp, hn, hc⟩, eL, ne, hl⟩ := hS
    have hm : CDivW n m := wide_div h0 h1 (by decide) (by decide)
    refine ⟨fun σ' H' => ∃ x y z, σ' = [some (.ref S), some (.int m), x, y, z] ∧ Ex S H H' ∧ Strm S L ns H', ?_, ?_⟩
    · walk_at "rd"
      have key : ∀ H', Ex S H H' → Strm S L ns H' → (∃ x y z, [some (V.ref S), some (V.int m), none, none, none] = [some (V.ref S), some (V.int m), x, y, z] ∧ Ex S H H' ∧ Strm S L ns H') := fun H' a b => ⟨_, _, _, rfl, a, b⟩
      refine i_d (p := n = 0) (fun hz => ?_) (fun hz => ?_)
      · walk_at "rd"
        refine i_d (fun hl2 => ?_) (fun hl2 => ?_)
        · rw [List.length_map] at hl2
          have hlt : p < ns.length := by omega
          walk_at "rd"
          refine r_ixL (sql eL) (atI_nat (map_at hlt)) ?_
          generalize ns[p] = z
          walk_at "rd"
          refine i_d (fun hb => ?_) (fun hb => ?_)
          · walk_at "rd"
            exact ⟨_, _, _, rfl, Ex.at (Ex.refl _ _), strm_at eL ne hl (by omega) (by omega) (Int.emod_nonneg _ (by decide)) (by decide)⟩
          · walk_at "rd"
            exact ⟨_, _, _, rfl, Ex.at (Ex.refl _ _), strm_at eL ne hl (by omega) (by omega) (by split <;> split <;> omega) (by decide)⟩
        · walk_at "rd"
          exact key H (Ex.refl _ _) ⟨⟨p, n, c, eS, hp, hn, hc⟩, eL, ne, hl⟩
      · walk_at "rd"
        refine i_d (p := c = 0) (fun hz => ?_) (fun hz => ?_)
        · walk_at "rd"
          refine i_d (fun hl2 => ?_) (fun hl2 => ?_)
          · rw [List.length_map] at hl2
            have hlt : p < ns.length := by omega
            walk_at "rd"
            refine r_ixL (sql eL) (atI_nat (map_at hlt)) ?_
            generalize ns[p] = z
            walk_at "rd"
            refine i_d (fun hb => ?_) (fun hb => ?_)
            · walk_at "rd"
              exact ⟨_, _, _, rfl, Ex.at (Ex.refl _ _), strm_at eL ne hl (by omega) (by omega) (Int.emod_nonneg _ (by decide)) (by decide)⟩
            · walk_at "rd"
              exact ⟨_, _, _, rfl, Ex.at (Ex.refl _ _), strm_at eL ne hl (by omega) (by omega) (by split <;> split <;> omega) (by decide)⟩
          · walk_at "rd"
            exact key H (Ex.refl _ _) ⟨⟨p, n, c, eS, hp, hn, hc⟩, eL, ne, hl⟩
        · walk_at "rd"
          exact key H (Ex.refl _ _) ⟨⟨p, n, c, eS, hp, hn, hc⟩, eL, ne, hl⟩
    · rintro σ' H' ⟨x, y, z, rfl, ex, ⟨⟨p, n, c, eS, hp, hn, hc⟩, eL, ne, hl⟩⟩
      have hm : CDivW n m := wide_div h0 h1 (by decide) (by decide)
      walk_at "rd"
      refine i_d (p := c = 0) (fun hz => ?_) (fun hz => ?_)
      · walk_at "rd"
        exact k 0 H' (Int.le_refl _) h0 ex ⟨⟨p, n, c, eS, hp, hn, hc⟩, eL, ne, hl⟩
      · walk_at "rd"
        exact k _ _ (Int.emod_nonneg _ (by omega)) (Int.emod_lt_of_pos _ h0) (Ex.at ex) (strm_at eL ne hl (by omega) (by omega) (Int.ediv_nonneg hn (by omega)) (by omega))
end

/-! ### what is alike -/
mutual
/-- x and y are alike in H; n: how many looks that takes -/
inductive Al (K : PySem.W.Frag) (H : Hp) : V → V → Nat → Prop where
  | non : Al K H .non .non 1
  | bl (b : Bool) : Al K H (.bl b) (.bl b) 1
  | int (i : Int) : Al K H (.int i) (.int i) 1
  | str (s : Str) : Al K H (.str s) (.str s) 1
  | lst {a b : Addr} {xs ys : List V} {n : Nat} (h1 : SqL K H a xs) (h2 : SqL K H b ys) (h : Als K H xs ys n) : Al K H (.ref a) (.ref b) (n + 1)
  | tup {a b : Addr} {xs ys : List V} {n : Nat} (h1 : SqT K H a xs) (h2 : SqT K H b ys) (h : Als K H xs ys n) : Al K H (.ref a) (.ref b) (n + 1)
inductive Als (K : PySem.W.Frag) (H : Hp) : List V → List V → Nat → Prop where
  | nil : Als K H [] [] 0
  | cons {x y : V} {xs ys : List V} {n m : Nat} (h : Al K H x y n) (t : Als K H xs ys m) : Als K H (x :: xs) (y :: ys) (n + m)
end
section
variable {K : PySem.W.Frag} {H H' : Hp}
theorem Al.same {x y : V} {n : Nat} (h : Al K H x y n) (e : Same H H') : Al K H' x y n :=
  h.rec (motive_1 := fun x y n _ => Al K H' x y n) (motive_2 := fun xs ys n _ => Als K H' xs ys n) .non .bl .int .str (fun h1 h2 _ ih => .lst (e.seq h1) (e.seq h2) ih) (fun h1 h2 _ ih => .tup (same_tup e h1) (same_tup e h2) ih) .nil (fun _ _ a b => .cons a b)
theorem Als.same {xs ys : List V} {n : Nat} (h : Als K H xs ys n) (e : Same H H') : Als K H' xs ys n :=
  h.rec (motive_1 := fun x y n _ => Al K H' x y n) (motive_2 := fun xs ys n _ => Als K H' xs ys n) .non .bl .int .str (fun h1 h2 _ ih => .lst (e.seq h1) (e.seq h2) ih) (fun h1 h2 _ ih => .tup (same_tup e h1) (same_tup e h2) ih) .nil (fun _ _ a b => .cons a b)
theorem Als.len {xs ys : List V} {n : Nat} (h : Als K H xs ys n) : xs.length = ys.length :=
  h.rec (motive_1 := fun _ _ _ _ => True) (motive_2 := fun xs ys _ _ => xs.length = ys.length) trivial (fun _ => trivial) (fun _ => trivial) (fun _ => trivial) (fun _ _ _ _ => trivial) (fun _ _ _ _ => trivial) rfl (fun _ _ _ b => congrArg (· + 1) b)
theorem Als.app {xs ys us ws : List V} {n m : Nat} (h : Als K H xs ys n) (g : Als K H us ws m) : Als K H (xs ++ us) (ys ++ ws) (n + m) :=
  h.rec (motive_1 := fun _ _ _ _ => True) (motive_2 := fun xs ys n _ => Als K H (xs ++ us) (ys ++ ws) (n + m)) trivial (fun _ => trivial) (fun _ => trivial) (fun _ => trivial) (fun _ _ _ _ => trivial) (fun _ _ _ _ => trivial)
    (by rw [Nat.zero_add]; exact g) (fun a _ _ b => by rw [Nat.add_assoc]; exact .cons a b)
theorem Als.last {xs ys : List V} {x y : V} : ∀ {n : Nat}, Als K H (xs ++ [x]) (ys ++ [y]) n → xs.length = ys.length → ∃ m k, n = m + k ∧ Als K H xs ys m ∧ Al K H x y k := by
  induction xs generalizing ys with
  | nil =>
    intro n h hl
    cases ys with
    | cons _ _ => cases hl
    | nil =>
      cases h with
      | cons a t =>
        cases t
        exact ⟨0, _, by omega, .nil, a⟩
  | cons u us ih =>
    intro n h hl
    cases ys with
    | nil => cases hl
    | cons w ws =>
      cases h with
      | cons a t =>
        obtain ⟨m, k, e, t', l⟩ := ih t (by simpa using hl)
        exact ⟨_, k, by rw [e, Nat.add_assoc], .cons a t', l⟩
theorem Al.posI {x y : V} {n : Nat} (h : Al K H x y n) : 0 < n := by
  cases h <;> omega
theorem Als.le {xs ys : List V} {n : Nat} (h : Als K H xs ys n) : ys.length ≤ n :=
  h.rec (motive_1 := fun _ _ n _ => 0 < n) (motive_2 := fun _ ys n _ => ys.length ≤ n) (by decide) (fun _ => by decide) (fun _ => by decide) (fun _ => by decide) (fun _ _ _ _ => Nat.succ_pos _) (fun _ _ _ _ => Nat.succ_pos _) (Nat.le_refl _)
    (fun _ _ a b => by rw [List.length_cons]; omega)
theorem Al.pos {x y : V} {n : Nat} (h : Al K H x y n) : 0 < n := by
  cases h <;> omega
theorem Als.get {xs ys : List V} : ∀ {n : Nat} (i : Nat), Als K H xs ys n → i < xs.length → ∃ x y, xs[i]? = some x ∧ ys[i]? = some y := by
  intro n i h hi
  have e := h.len
  exact ⟨xs[i], ys[i]'(by omega), List.getElem?_eq_getElem hi, List.getElem?_eq_getElem (by omega)⟩
theorem Als.ints : ∀ ns : List Int, Als K H (ns.map V.int) (ns.map V.int) ns.length
  | [] => .nil
  | n :: r => by
    rw [List.length_cons, Nat.add_comm]
    exact .cons (.int n) (Als.ints r)
theorem Als.bls : ∀ ns : List Bool, Als K H (ns.map V.bl) (ns.map V.bl) ns.length
  | [] => .nil
  | n :: r => by
    rw [List.length_cons, Nat.add_comm]
    exact .cons (.bl n) (Als.bls r)
/-- the pairs that stand on the stack at l -/
inductive Prs (l : Addr) (H : Hp) : List V → List V → List V → Prop where
  | nil : Prs l H [] [] []
  | cons {p : Addr} {x y : V} {vs xs ys : List V} (h : H p = some (.lst [x, y])) (n : p ≠ l) (t : Prs l H vs xs ys) : Prs l H (.ref p :: vs) (x :: xs) (y :: ys)
theorem Prs.keep {l : Addr} {vs xs ys : List V} (h : Prs l H vs xs ys) (e : ∀ p o, p ≠ l → H p = some o → H' p = some o) : Prs l H' vs xs ys := by
  induction h with
  | nil => exact .nil
  | cons h n _ ih => exact .cons (e _ _ n h) n ih
theorem Prs.len {l : Addr} {vs xs ys : List V} (h : Prs l H vs xs ys) : vs.length = xs.length ∧ xs.length = ys.length := by
  induction h with
  | nil => exact ⟨rfl, rfl⟩
  | cons h n _ ih => exact ⟨congrArg (· + 1) ih.1, congrArg (· + 1) ih.2⟩
theorem Prs.app {l p : Addr} {x y : V} {vs xs ys : List V} (h : Prs l H vs xs ys) (hp : H p = some (.lst [x, y])) (n : p ≠ l) : Prs l H (vs ++ [.ref p]) (xs ++ [x]) (ys ++ [y]) := by
  induction h with
  | nil => exact .cons hp n .nil
  | cons h m _ ih => exact .cons h m ih
theorem Prs.last {l : Addr} {v x y : V} : ∀ {vs xs ys : List V}, Prs l H (vs ++ [v]) (xs ++ [x]) (ys ++ [y]) → vs.length = xs.length → xs.length = ys.length → ∃ p, v = .ref p ∧ H p = some (.lst [x, y]) ∧ p ≠ l ∧ Prs l H vs xs ys := by
  intro vs
  induction vs with
  | nil =>
    intro xs ys h h1 h2
    cases xs with
    | cons _ _ => cases h1
    | nil =>
      cases ys with
      | cons _ _ => cases h2
      | nil =>
        cases h with
        | cons h n t => exact ⟨_, rfl, h, n, .nil⟩
  | cons w ws ih =>
    intro xs ys h h1 h2
    cases xs with
    | nil => cases h1
    | cons u us =>
      cases ys with
      | nil => cases h2
      | cons z zs =>
        cases h with
        | cons h n t =>
          obtain ⟨p, e, hp, n', t'⟩ := ih t (by simpa using h1) (by simpa using h2)
          exact ⟨p, e, hp, n', .cons h n t'⟩
theorem snoc {l : List V} (h : l.length ≠ 0) : ∃ r v, l = r ++ [v] := by
  rcases List.eq_nil_or_concat l with e | ⟨r, v, e⟩
  · subst e
    exact absurd rfl h
  · exact ⟨r, v, by simpa using e⟩
/-! isinstance -/
theorem ty_lst {a : Addr} {xs : List V} (h : SqL K H a xs) : TyX K H (.ref a) (.type "list") := by
  rcases h with (h | ⟨o, h⟩) | ⟨o, _, _, h, c, _⟩
  · exact .base (.lst h)
  · exact .base (.frz h)
  · exact .kList h c
theorem ty_tup {a : Addr} {xs : List V} (h : SqT K H a xs) : TyX K H (.ref a) (.type "tuple") := by
  rcases h with (h | ⟨o, h⟩) | ⟨o, _, _, h, c, _⟩
  · exact .base (.tup h)
  · exact .fTuple h
  · exact .kTuple h c
theorem kit2 {t : String} {b : Bool} (h1 : kitB t "list" = some b) (h2 : b = true ∨ kitB t "tuple" = some false) : PySem.W.kitAny K (.type t) [.type "list", .type "tuple"] = some b := by
  refine kitAny_cons (kit_ty h1) (fun e => ?_) (fun e => e)
  subst e
  rcases h2 with h | h
  · cases h
  · exact kitAny_cons (kit_ty h) (fun _ => rfl) (fun e => e)
theorem kit2t {t : String} (h1 : kitB t "list" = some false) (h2 : kitB t "tuple" = some true) : PySem.W.kitAny K (.type t) [.type "list", .type "tuple"] = some true :=
  kitAny_cons (kit_ty h1) (fun _ => kitAny_cons (kit_ty h2) (fun e => nomatch e) (fun e => e)) (fun e => nomatch e)
theorem r_isi2 {x : V} {tp : Addr} {t : Value} {b : Bool} {Q : VK} (hT : H tp = some (.tup [.ty "list", .ty "tuple"])) (ty : TyX K H x t) (e : PySem.W.kitAny K t [.type "list", .type "tuple"] = some b) (q : Q (.bl b) H) : rIsiT K [x, .ref tp] H Q :=
  ⟨x, tp, _, t, _, b, rfl, hT, .cons (.ty _) (.cons (.ty _) .nil), ty, e, q⟩
theorem r_isi {x : V} {t c : String} {b : Bool} {Q : VK} (ty : TyX K H x (.type t)) (e : kitB t c = some b) (q : Q (.bl b) H) : rIsi K [x, .ty c] H Q :=
  ⟨x, _, _, _, b, rfl, .ty _, ty, kit_ty e, q⟩
theorem two_lst {x : V} {tp a : Addr} {xs : List V} {Q : VK} (hT : H tp = some (.tup [.ty "list", .ty "tuple"])) (h : SqL K H a xs) (q : Q (.bl true) H) : rIsiT K [.ref a, .ref tp] H Q := r_isi2 hT (ty_lst h) (kit2 (by decide +kernel) (.inl rfl)) q
theorem two_tup {x : V} {tp a : Addr} {xs : List V} {Q : VK} (hT : H tp = some (.tup [.ty "list", .ty "tuple"])) (h : SqT K H a xs) (q : Q (.bl true) H) : rIsiT K [.ref a, .ref tp] H Q := r_isi2 hT (ty_tup h) (kit2t (by decide +kernel) (by decide +kernel)) q
theorem two_non {tp : Addr} {Q : VK} (hT : H tp = some (.tup [.ty "list", .ty "tuple"])) (q : Q (.bl false) H) : rIsiT K [.non, .ref tp] H Q := r_isi2 hT (.base .non) (kit2 (by decide +kernel) (.inr (by decide +kernel))) q
theorem two_bl {tp : Addr} {b : Bool} {Q : VK} (hT : H tp = some (.tup [.ty "list", .ty "tuple"])) (q : Q (.bl false) H) : rIsiT K [.bl b, .ref tp] H Q := r_isi2 hT (.base (.bl b)) (kit2 (by decide +kernel) (.inr (by decide +kernel))) q
theorem two_int {tp : Addr} {b : Int} {Q : VK} (hT : H tp = some (.tup [.ty "list", .ty "tuple"])) (q : Q (.bl false) H) : rIsiT K [.int b, .ref tp] H Q := r_isi2 hT (.base (.int b)) (kit2 (by decide +kernel) (.inr (by decide +kernel))) q
theorem two_str {tp : Addr} {b : Str} {Q : VK} (hT : H tp = some (.tup [.ty "list", .ty "tuple"])) (q : Q (.bl false) H) : rIsiT K [.str b, .ref tp] H Q := r_isi2 hT (.base (.str b)) (kit2 (by decide +kernel) (.inr (by decide +kernel))) q
end
def spAlike (K : PySem.W.Frag) : Sp := fun vs H Q _ => ∃ (x y : V) (n : Nat), vs = [x, y] ∧ Al K H x y n ∧ n < 6000 ∧ ∀ H', Same H H' → Q (.bl true) H'
theorem use_alike {K : PySem.W.Frag} {x y : V} {n : Nat} {H : Hp} {Q : VK} {E : XK} (h : Al K H x y n) (hn : n < 6000) (k : ∀ H', Same H H' → Q (.bl true) H') : spAlike K [x, y] H Q E := ⟨x, y, n, rfl, h, hn, k⟩
section
variable {P : Program} {w : World} {K : PySem.W.Frag} {mg : Str → Option Value} {base : Heap}
local macro_rules | `(tactic| walk_at "isi") => `(tactic| first
  | ((with_reducible show rIsiT _ [V.non, _] _ _); refine two_non (by walk_at "hp") ?_)
  | ((with_reducible show rIsiT _ [V.bl _, _] _ _); refine two_bl (by walk_at "hp") ?_)
  | ((with_reducible show rIsiT _ [V.int _, _] _ _); refine two_int (by walk_at "hp") ?_)
  | ((with_reducible show rIsiT _ [V.str _, _] _ _); refine two_str (by walk_at "hp") ?_)
  | ((with_reducible show rIsiT _ [V.ref _, _] _ _); first | refine two_lst (x := .non) (by walk_at "hp") (by walk_at "sa") ?_ | refine two_tup (x := .non) (by walk_at "hp") (by walk_at "sa") ?_)
  | ((with_reducible show rIsi _ [V.non, _] _ _); first | refine r_isi (b := true) (.base .non) (by decide +kernel) ?_ | refine r_isi (b := false) (.base .non) (by decide +kernel) ?_)
  | ((with_reducible show rIsi _ [V.bl _, _] _ _); first | refine r_isi (b := true) (.base (.bl _)) (by decide +kernel) ?_ | refine r_isi (b := false) (.base (.bl _)) (by decide +kernel) ?_)
  | ((with_reducible show rIsi _ [V.int _, _] _ _); first | refine r_isi (b := true) (.base (.int _)) (by decide +kernel) ?_ | refine r_isi (b := false) (.base (.int _)) (by decide +kernel) ?_)
  | ((with_reducible show rIsi _ [V.str _, _] _ _); first | refine r_isi (b := true) (.base (.str _)) (by decide +kernel) ?_ | refine r_isi (b := false) (.base (.str _)) (by decide +kernel) ?_)
  | ((with_reducible show rIsi _ [V.ref _, _] _ _); first | first | refine r_isi (b := true) (ty_lst (by walk_at "sa")) (by decide +kernel) ?_ | refine r_isi (b := false) (ty_lst (by walk_at "sa")) (by decide +kernel) ?_ | first | refine r_isi (b := true) (ty_tup (by walk_at "sa")) (by decide +kernel) ?_ | refine r_isi (b := false) (ty_tup (by walk_at "sa")) (by decide +kernel) ?_))
local macro_rules | `(tactic| walk_at "go") => `(tactic| repeat (first | walk_at "rd1" | walk_at "tf" | walk_at "isi" | ((with_reducible show ∀ _ : Addr, _ = none → _); intro _ _)))
theorem ok_alike (T : Txt K mg) : FnOk P w K mg base CX0 1 T.a_alike T.d_alike ["_law_told", "_law_due"] (spAlike K) := by
  refine T.F_alike.ok sc__law_alike (fun vs H Q E h => ?_) (fun cdv A outer s H vs Q E hr h => ⟨_, (pss_cons (ps_set (i := 2) sc__law_alike.nd rfl (.inl rfl) (pe_lst (pa_cons (pe_lst (pa_cons (pv 0) (pa_cons (pv 1) pa_nil))) pa_nil)))
      (pss_cons (ps_for PassesOwn.never rfl (pi_range1 (by rfl) T.z_range (pa_cons pe_int pa_nil)) (pg_name (i := 3) sc__law_alike.nd rfl (.inl rfl))
      (pss_cons (ps_if (pt_cmpR op_eq (pe_callB call_len_seq (by rfl) T.z_len PySem.boot_len (pa_cons (pv 2) pa_nil)) pe_int (nomark _))
      (pss_one (ps_ret pe_bl))
      pss_nil)
      (pss_cons (ps_set (i := 4) sc__law_alike.nd rfl (.inl rfl) (pe_bm0 PySem.F.plainAttrs_list PySem.F.slot_list_pop PySem.F.type_list_pop mt_pop (pv 2)))
      (pss_cons (ps_set (i := 5) sc__law_alike.nd rfl (.inl rfl) (pe_ix ix_list (pv 4) pe_int (fun _ _ => rfl)))
      (pss_cons (ps_set (i := 6) sc__law_alike.nd rfl (.inl rfl) (pe_ix ix_list (pv 4) pe_int (fun _ _ => rfl)))
      (pss_one (ps_if (pt_val (pe_callB call_isiT (by rfl) T.z_isinstance (by decide +kernel) (pa_cons (pv 6) (pa_cons (pe_tup (pa_cons (pe_bltn (v := .ty "list") (by rfl) T.z_list (by decide +kernel) rfl) (pa_cons (pe_bltn (v := .ty "tuple") (by rfl) T.z_tuple (by decide +kernel) rfl) pa_nil))) pa_nil))))
      (pss_cons (ps_if (PW.pt (pw_or (pt_not (pt_val (pe_callB call_isiT (by rfl) T.z_isinstance (by decide +kernel) (pa_cons (pv 5) (pa_cons (pe_tup (pa_cons (pe_bltn (v := .ty "list") (by rfl) T.z_list (by decide +kernel) rfl) (pa_cons (pe_bltn (v := .ty "tuple") (by rfl) T.z_tuple (by decide +kernel) rfl) pa_nil))) pa_nil))))) (pw_or1 (pt_cmpR op_ne (pe_callB call_isi (by rfl) T.z_isinstance (by decide +kernel) (pa_cons (pv 5) (pa_cons (pe_bltn (v := .ty "list") (by rfl) T.z_list (by decide +kernel) rfl) pa_nil))) (pe_callB call_isi (by rfl) T.z_isinstance (by decide +kernel) (pa_cons (pv 6) (pa_cons (pe_bltn (v := .ty "list") (by rfl) T.z_list (by decide +kernel) rfl) pa_nil))) (nomark _)))))
      (pss_one (ps_ret pe_bl))
      pss_nil)
      (pss_cons (ps_if (pt_cmpR op_ne (pe_callB call_len_seq (by rfl) T.z_len PySem.boot_len (pa_cons (pv 5) pa_nil)) (pe_callB call_len_seq (by rfl) T.z_len PySem.boot_len (pa_cons (pv 6) pa_nil)) (nomark _))
      (pss_one (ps_ret pe_bl))
      pss_nil)
      (pss_one (ps_for PassesOwn.never rfl (pi_range1 (by rfl) T.z_range (pa_cons (pe_callB call_len_seq (by rfl) T.z_len PySem.boot_len (pa_cons (pv 6) pa_nil)) pa_nil)) (pg_name (i := 7) sc__law_alike.nd rfl (.inl rfl))
      (pss_one (ps_expr (pe_bm PySem.F.plainAttrs_list PySem.F.slot_list_append PySem.F.type_list_append mt_append (pv 2) (pa_cons (pe_lst (pa_cons (pe_ix ix_seq (pv 5) (pv 7) (fun _ _ => rfl)) (pa_cons (pe_ix ix_seq (pv 6) (pv 7) (fun _ _ => rfl)) pa_nil))) pa_nil))))))))
      (pss_one (ps_if (pt_cmpR op_isN (pv 6) pe_non (nomark _))
      (pss_one (ps_if (pt_cmpR op_notN (pv 5) pe_non (nomark _))
      (pss_one (ps_ret pe_bl))
      pss_nil))
      (pss_one (ps_if (pt_val (pe_callB call_isi (by rfl) T.z_isinstance (by decide +kernel) (pa_cons (pv 6) (pa_cons (pe_bltn (v := .ty "bool") (by rfl) T.z_bool (by decide +kernel) rfl) pa_nil))))
      (pss_one (ps_if (PW.pt (pw_or (pt_not (pt_val (pe_callB call_isi (by rfl) T.z_isinstance (by decide +kernel) (pa_cons (pv 5) (pa_cons (pe_bltn (v := .ty "bool") (by rfl) T.z_bool (by decide +kernel) rfl) pa_nil))))) (pw_or1 (pt_cmpR op_ne (pv 5) (pv 6) (nomark _)))))
      (pss_one (ps_ret pe_bl))
      pss_nil))
      (pss_one (ps_if (pt_val (pe_callB call_isi (by rfl) T.z_isinstance (by decide +kernel) (pa_cons (pv 6) (pa_cons (pe_bltn (v := .ty "int") (by rfl) T.z_int (by decide +kernel) rfl) pa_nil))))
      (pss_one (ps_if (PW.pt (pw_or (pt_not (pt_val (pe_callB call_isi (by rfl) T.z_isinstance (by decide +kernel) (pa_cons (pv 5) (pa_cons (pe_bltn (v := .ty "int") (by rfl) T.z_int (by decide +kernel) rfl) pa_nil))))) (pw_or (pt_val (pe_callB call_isi (by rfl) T.z_isinstance (by decide +kernel) (pa_cons (pv 5) (pa_cons (pe_bltn (v := .ty "bool") (by rfl) T.z_bool (by decide +kernel) rfl) pa_nil)))) (pw_or1 (pt_cmpR op_ne (pv 5) (pv 6) (nomark _))))))
      (pss_one (ps_ret pe_bl))
      pss_nil))
      (pss_one (ps_if (PW.pt (pw_or (pt_not (pt_val (pe_callB call_isi (by rfl) T.z_isinstance (by decide +kernel) (pa_cons (pv 5) (pa_cons (pe_bltn (v := .ty "str") (by rfl) T.z_str (by decide +kernel) rfl) pa_nil))))) (pw_or1 (pt_cmpR op_ne (pv 5) (pv 6) (nomark _)))))
      (pss_one (ps_ret pe_bl))
      pss_nil)))))))))))))))
      (pss_one (ps_ret pe_bl)))), ?_⟩)
  · first | (obtain ⟨rfl, _⟩ := h; rfl) | (obtain ⟨_, rfl, _⟩ := h; rfl) | (obtain ⟨_, _, rfl, _⟩ := h; rfl) | (obtain ⟨_, _, _, rfl, _⟩ := h; rfl) | (obtain ⟨_, _, _, _, rfl, _⟩ := h; rfl) | (obtain ⟨_, _, _, _, _, rfl, _⟩ := h; rfl) | (obtain ⟨_, _, _, _, _, _, rfl, _⟩ := h; rfl) | (obtain ⟨_, _, _, _, _, _, _, rfl, _⟩ := h; rfl) | (obtain ⟨_, _, _, _, _, _, _, _, rfl, _⟩ := h; rfl) | (obtain ⟨_, _, _, _, _, _, _, _, _, rfl, _⟩ := h; rfl) | (obtain ⟨_, _, _, _, _, _, _, _, _, _, rfl, _⟩ := h; rfl) | (obtain ⟨_, _, _, _, _, _, _, _, _, _, _, rfl, _⟩ := h; rfl) | (obtain ⟨_, _, _, _, _, _, _, _, _, _, _, _, rfl, _⟩ := h; rfl) | (obtain ⟨_, _, _, _, _, _, _, _, _, _, _, _, _, rfl, _⟩ := h; rfl) | (obtain ⟨_, _, _, _, _, _, _, _, _, _, _, _, _, _, rfl, _⟩ := h; rfl)
  · obtain ⟨x, y, N, rfl, hA, hN, k⟩ := h
    try dsimp only [cxOf, Cx.nox, Cx.wish]
    refine st_of (σ := [some _, some _, none, none, none, none, none, none]) rfl ?_
    walk_at "rd"
    intro p hp
    walk_at "rd"
    intro l hl
    have npl : p ≠ l := ne_of_none upd_same hl
    have hl0 : H l = none := by
      rw [upd_ne npl.symm] at hl
      exact hl
    walk_at "rd"
    refine c_rng1 ?_
    walk_at "rd"
    refine ⟨by decide, by decide, for_range (lo := 0) (n := 6000) (fun i σ' H' => ∃ vs xs ys n a b c d e, σ' = [some x, some y, some (.ref l), a, b, c, d, e] ∧ H' l = some (.lst vs) ∧ Prs l H' vs xs ys ∧ Als K H xs ys n ∧ n + i ≤ 5999 ∧ Same H H') ?_ ?_ ?_⟩
    · refine ⟨_, [x], [y], N, none, none, none, none, none, rfl, upd_same, .cons ((upd_ne npl).trans upd_same) npl .nil, ?_, by omega, by walk_at "sm"⟩
      exact .cons hA .nil
    · rintro i σ' H' hi ⟨vs, xs, ys, n, a, b, c, d, e, rfl, el, pr, al, hn, sm⟩
      obtain ⟨hv1, hv2⟩ := pr.len
      walk_at "rd"
      refine i_d (fun hz => ?_) (fun hz => ?_)
      · walk_at "rd"
        exact k H' sm
      · have hz' : vs.length ≠ 0 := by omega
        obtain ⟨vs, v, rfl⟩ := snoc hz'
        obtain ⟨xs, x1, rfl⟩ := snoc (l := xs) (by omega)
        obtain ⟨ys, y1, rfl⟩ := snoc (l := ys) (by omega)
        rw [List.length_append, List.length_append] at hv1
        rw [List.length_append, List.length_append] at hv2
        obtain ⟨p1, rfl, hp1, n1, pr⟩ := pr.last (by simpa using hv1) (by simpa using hv2)
        obtain ⟨m, q, rfl, als, al⟩ := al.last (by simpa using hv2)
        have pr' : Prs l (upd H' l (.lst vs)) vs xs ys := pr.keep fun p o n h => (upd_ne n).trans h
        have sm' : Same H (upd H' l (.lst vs)) := same_mut sm hl0
        have hp1' : (upd H' l (.lst vs)) p1 = some (.lst [x1, y1]) := (upd_ne n1).trans hp1
        have el' : (upd H' l (.lst vs)) l = some (.lst vs) := upd_same
        walk_at "rd"
        intro tp htp
        walk_at "rd"
        have hq := al.pos
        have hvs : vs.length ≤ 5999 := by
          have := als.le
          simp at hv1 hv2
          omega
        have fin : ∀ H2 n2 (q : Same (upd H' l (.lst vs)) H2), H2 l = some (.lst vs) → ∃ n3, n3 + (i + 1) ≤ 5999 ∧ Prs l H2 vs xs ys ∧ Als K H xs ys n3 ∧ Same H H2 := fun H2 n2 q z => ⟨m, by omega, pr'.keep fun p o _ h => q p o h, als, Same.trans sm' q⟩
        have fin : ∀ H2 (q : Same (upd H' l (.lst vs)) H2), ∃ n3, n3 + (i + 1) ≤ 5999 ∧ Prs l H2 vs xs ys ∧ Als K H xs ys n3 ∧ Same H H2 := fun H2 q => ⟨m, by omega, pr'.keep fun p o _ h => q p o h, als, Same.trans sm' q⟩
        cases al
        · walk_at "go"
          obtain ⟨n3, a1, a2, a3, a4⟩ := fin _ (same_new (Same.refl _) htp)
          exact ⟨vs, xs, ys, n3, _, _, _, _, _, rfl, by walk_at "hp", a2, a3, a1, a4⟩
        · walk_at "go"
          obtain ⟨n3, a1, a2, a3, a4⟩ := fin _ (same_new (Same.refl _) htp)
          exact ⟨vs, xs, ys, n3, _, _, _, _, _, rfl, by walk_at "hp", a2, a3, a1, a4⟩
        · walk_at "go"
          obtain ⟨n3, a1, a2, a3, a4⟩ := fin _ (same_new (Same.refl _) htp)
          exact ⟨vs, xs, ys, n3, _, _, _, _, _, rfl, by walk_at "hp", a2, a3, a1, a4⟩
        · walk_at "go"
          obtain ⟨n3, a1, a2, a3, a4⟩ := fin _ (same_new (Same.refl _) htp)
          exact ⟨vs, xs, ys, n3, _, _, _, _, _, rfl, by walk_at "hp", a2, a3, a1, a4⟩
        case lst a1 b1 xs1 ys1 n1 h1 h2 hs =>
          have hlen : xs1.length = ys1.length := hs.len
          walk_at "isi"
          walk_at "rd"
          intro tq htq
          walk_at "rd"
          walk_at "isi"
          walk_at "rd"
          walk_at "tf"
          walk_at "rd"
          walk_at "isi"
          walk_at "rd"
          walk_at "isi"
          walk_at "rd"
          walk_at "tf"
          walk_at "rd"
          refine i_n (fun hne => absurd (by omega) hne) (fun _ => ?_)
          walk_at "rd"
          with_reducible refine c_rng1 ?_
          walk_at "rd"
          have smq : Same H (upd (upd (upd H' l (.lst vs)) tp (.tup [.ty "list", .ty "tuple"])) tq (.tup [.ty "list", .ty "tuple"])) := by walk_at "sm"
          have prq : Prs l (upd (upd (upd H' l (.lst vs)) tp (.tup [.ty "list", .ty "tuple"])) tq (.tup [.ty "list", .ty "tuple"])) vs xs ys := pr'.keep fun p o _ h => (same_new (same_new (Same.refl _) htp) htq) p o h
          have elq : (upd (upd (upd H' l (.lst vs)) tp (.tup [.ty "list", .ty "tuple"])) tq (.tup [.ty "list", .ty "tuple"])) l = some (.lst vs) := by walk_at "hp"
          generalize (upd (upd (upd H' l (.lst vs)) tp (.tup [.ty "list", .ty "tuple"])) tq (.tup [.ty "list", .ty "tuple"])) = G at smq prq elq
          have hbnd : ys1.length ≤ 5999 := by
            have := hs.le
            omega
          refine ⟨by omega, by omega, for_range (lo := 0) (n := ys1.length) (fun j σ3 H3 => ∃ us e1, σ3 = [some x, some y, some (.ref l), some (.int (0 + (i : Int))), some (.ref p1), some (.ref a1), some (.ref b1), e1] ∧ H3 l = some (.lst us) ∧ us.length ≤ 5999 + j ∧ Prs l H3 us (xs ++ xs1.take j) (ys ++ ys1.take j) ∧ Same H H3) ?_ ?_ ?_⟩
          · refine ⟨vs, _, rfl, elq, by omega, ?_, smq⟩
            rw [List.take_zero, List.take_zero, List.append_nil, List.append_nil]
            exact prq
          · rintro j σ3 H3 hj ⟨us, e1, rfl, el3, hus, pr3, sm3⟩
            have hx : xs1[j]? = some (xs1[j]'(by omega)) := List.getElem?_eq_getElem _
            have hy : ys1[j]? = some (ys1[j]'(by omega)) := List.getElem?_eq_getElem _
            rw [Int.zero_add]
            walk_at "rd"
            refine .inl (r_ixL (by walk_at "sa") (atI_nat hx) ?_)
            walk_at "rd"
            refine .inl (r_ixL (by walk_at "sa") (atI_nat hy) ?_)
            walk_at "rd"
            intro q hq
            have hql : q ≠ l := (ne_of_none el3 hq).symm
            walk_at "rd"
            refine ⟨us ++ [.ref q], _, rfl, upd_same, by simp; omega, ?_, same_mut (same_new sm3 hq) hl0⟩
            rw [List.take_add_one, List.take_add_one, hx, hy]
            have pr4 : Prs l (upd (upd H3 q (.lst [xs1[j]'(by omega), ys1[j]'(by omega)])) l (.lst (us ++ [.ref q]))) us (xs ++ xs1.take j) (ys ++ ys1.take j) := pr3.keep fun p o n h => (upd_ne n).trans ((upd_ne (ne_of_none h hq)).trans h)
            have := pr4.app (p := q) ((upd_ne hql).trans upd_same) hql
            simpa [List.append_assoc] using this
          · rintro σ3 H3 ⟨us, e1, rfl, el3, hus, pr3, sm3⟩
            rw [List.take_of_length_le (by omega), List.take_of_length_le (by omega)] at pr3
            exact ⟨us, xs ++ xs1, ys ++ ys1, m + n1, _, _, _, _, _, rfl, el3, pr3, als.app hs, by omega, sm3⟩
        case tup a1 b1 xs1 ys1 n1 h1 h2 hs =>
          have hlen : xs1.length = ys1.length := hs.len
          walk_at "isi"
          walk_at "rd"
          intro tq htq
          walk_at "rd"
          walk_at "isi"
          walk_at "rd"
          walk_at "tf"
          walk_at "rd"
          walk_at "isi"
          walk_at "rd"
          walk_at "isi"
          walk_at "rd"
          walk_at "tf"
          walk_at "rd"
          refine i_n (fun hne => absurd (by omega) hne) (fun _ => ?_)
          walk_at "rd"
          with_reducible refine c_rng1 ?_
          walk_at "rd"
          have smq : Same H (upd (upd (upd H' l (.lst vs)) tp (.tup [.ty "list", .ty "tuple"])) tq (.tup [.ty "list", .ty "tuple"])) := by walk_at "sm"
          have prq : Prs l (upd (upd (upd H' l (.lst vs)) tp (.tup [.ty "list", .ty "tuple"])) tq (.tup [.ty "list", .ty "tuple"])) vs xs ys := pr'.keep fun p o _ h => (same_new (same_new (Same.refl _) htp) htq) p o h
          have elq : (upd (upd (upd H' l (.lst vs)) tp (.tup [.ty "list", .ty "tuple"])) tq (.tup [.ty "list", .ty "tuple"])) l = some (.lst vs) := by walk_at "hp"
          generalize (upd (upd (upd H' l (.lst vs)) tp (.tup [.ty "list", .ty "tuple"])) tq (.tup [.ty "list", .ty "tuple"])) = G at smq prq elq
          have hbnd : ys1.length ≤ 5999 := by
            have := hs.le
            omega
          refine ⟨by omega, by omega, for_range (lo := 0) (n := ys1.length) (fun j σ3 H3 => ∃ us e1, σ3 = [some x, some y, some (.ref l), some (.int (0 + (i : Int))), some (.ref p1), some (.ref a1), some (.ref b1), e1] ∧ H3 l = some (.lst us) ∧ us.length ≤ 5999 + j ∧ Prs l H3 us (xs ++ xs1.take j) (ys ++ ys1.take j) ∧ Same H H3) ?_ ?_ ?_⟩
          · refine ⟨vs, _, rfl, elq, by omega, ?_, smq⟩
            rw [List.take_zero, List.take_zero, List.append_nil, List.append_nil]
            exact prq
          · rintro j σ3 H3 hj ⟨us, e1, rfl, el3, hus, pr3, sm3⟩
            have hx : xs1[j]? = some (xs1[j]'(by omega)) := List.getElem?_eq_getElem _
            have hy : ys1[j]? = some (ys1[j]'(by omega)) := List.getElem?_eq_getElem _
            rw [Int.zero_add]
            walk_at "rd"
            refine .inr (.inl (r_ixT (by walk_at "sa") (atI_nat hx) ?_))
            walk_at "rd"
            refine .inr (.inl (r_ixT (by walk_at "sa") (atI_nat hy) ?_))
            walk_at "rd"
            intro q hq
            have hql : q ≠ l := (ne_of_none el3 hq).symm
            walk_at "rd"
            refine ⟨us ++ [.ref q], _, rfl, upd_same, by simp; omega, ?_, same_mut (same_new sm3 hq) hl0⟩
            rw [List.take_add_one, List.take_add_one, hx, hy]
            have pr4 : Prs l (upd (upd H3 q (.lst [xs1[j]'(by omega), ys1[j]'(by omega)])) l (.lst (us ++ [.ref q]))) us (xs ++ xs1.take j) (ys ++ ys1.take j) := pr3.keep fun p o n h => (upd_ne n).trans ((upd_ne (ne_of_none h hq)).trans h)
            have := pr4.app (p := q) ((upd_ne hql).trans upd_same) hql
            simpa [List.append_assoc] using this
          · rintro σ3 H3 ⟨us, e1, rfl, el3, hus, pr3, sm3⟩
            rw [List.take_of_length_le (by omega), List.take_of_length_le (by omega)] at pr3
            exact ⟨us, xs ++ xs1, ys ++ ys1, m + n1, _, _, _, _, _, rfl, el3, pr3, als.app hs, by omega, sm3⟩
    · rintro σ' H' ⟨vs, xs, ys, n, a, b, c, d, e, rfl, el, pr, al, hn, sm⟩
      omega
end

/-! ### numbers, pools, rows -/
def spNumber : Sp := fun vs H Q _ => ∃ (S L : Addr) (ns : List Int) (m : Int), vs = [.ref S, .int m] ∧ Strm S L ns H ∧ 6 ≤ m ∧ m < 10 ^ 30 ∧ ∀ r H', -m ≤ r → r ≤ m → Ex S H H' → Strm S L ns H' → Q (.int r) H'
theorem use_number {S L : Addr} {ns : List Int} {m : Int} {H : Hp} {Q : VK} {E : XK} (s : Strm S L ns H) (h0 : 6 ≤ m) (h1 : m < 10 ^ 30) (k : ∀ r H', -m ≤ r → r ≤ m → Ex S H H' → Strm S L ns H' → Q (.int r) H') : spNumber [.ref S, .int m] H Q E :=
  ⟨S, L, ns, m, rfl, s, h0, h1, k⟩
section
variable {P : Program} {w : World} {K : PySem.W.Frag} {mg : Str → Option Value} {base : Heap}
theorem ok_number (T : Txt K mg) : FnOk P w K mg base CX0 2 T.a_number T.d_number ["_law_stream_here", "_law_most"] (spNumber) := by
  refine T.F_number.ok sc__law_number (fun vs H Q E h => ?_) (fun cdv A outer s H vs Q E hr h => ⟨_, (pss_cons (ps_set (i := 2) sc__law_number.nd rfl (.inl rfl) (pe_call (ok_draw T) (hr.mono (by decide)) (by rfl) T.g_draw T.F_draw.kp T.b_draw .nil pass0 (pa_cons (pv 0) (pa_cons pe_int pa_nil))))
      (pss_cons (ps_if (pt_cmpR op_eq (pv 2) pe_int (nomark _))
      (pss_one (ps_ret (pe_op op_sub (pe_call (ok_draw T) (hr.mono (by decide)) (by rfl) T.g_draw T.F_draw.kp T.b_draw .nil pass0 (pa_cons (pv 0) (pa_cons (pe_op op_add (pe_op op_mul pe_int (pv 1)) pe_int) pa_nil))) (pv 1))))
      pss_nil)
      (pss_cons (ps_if (pt_cmpR op_eq (pv 2) pe_int (nomark _))
      (pss_one (ps_ret (pe_op op_mul (pe_op op_sub (pv 1) (pe_call (ok_draw T) (hr.mono (by decide)) (by rfl) T.g_draw T.F_draw.kp T.b_draw .nil pass0 (pa_cons (pv 0) (pa_cons pe_int pa_nil)))) (pe_op op_sub pe_int (pe_op op_mul pe_int (pe_call (ok_draw T) (hr.mono (by decide)) (by rfl) T.g_draw T.F_draw.kp T.b_draw .nil pass0 (pa_cons (pv 0) (pa_cons pe_int pa_nil))))))))
      pss_nil)
      (pss_one (ps_ret (pe_op op_sub (pe_call (ok_draw T) (hr.mono (by decide)) (by rfl) T.g_draw T.F_draw.kp T.b_draw .nil pass0 (pa_cons (pv 0) (pa_cons pe_int pa_nil))) pe_int)))))), ?_⟩)
  · first | (obtain ⟨rfl, _⟩ := h; rfl) | (obtain ⟨_, rfl, _⟩ := h; rfl) | (obtain ⟨_, _, rfl, _⟩ := h; rfl) | (obtain ⟨_, _, _, rfl, _⟩ := h; rfl) | (obtain ⟨_, _, _, _, rfl, _⟩ := h; rfl) | (obtain ⟨_, _, _, _, _, rfl, _⟩ := h; rfl) | (obtain ⟨_, _, _, _, _, _, rfl, _⟩ := h; rfl) | (obtain ⟨_, _, _, _, _, _, _, rfl, _⟩ := h; rfl) | (obtain ⟨_, _, _, _, _, _, _, _, rfl, _⟩ := h; rfl) | (obtain ⟨_, _, _, _, _, _, _, _, _, rfl, _⟩ := h; rfl) | (obtain ⟨_, _, _, _, _, _, _, _, _, _, rfl, _⟩ := h; rfl) | (obtain ⟨_, _, _, _, _, _, _, _, _, _, _, rfl, _⟩ := h; rfl) | (obtain ⟨_, _, _, _, _, _, _, _, _, _, _, _, rfl, _⟩ := h; rfl) | (obtain ⟨_, _, _, _, _, _, _, _, _, _, _, _, _, rfl, _⟩ := h; rfl) | (obtain ⟨_, _, _, _, _, _, _, _, _, _, _, _, _, _, rfl, _⟩ := h; rfl)
  · obtain ⟨S, L, ns, m, rfl, st, h0, h1, k⟩ := h
    try dsimp only [cxOf, Cx.nox, Cx.wish]
    refine st_of (σ := [some _, some _, none]) rfl ?_
    walk_at "rd"
    refine use_draw st (by decide) (by decide) (fun kd H1 k0 k1 x1 st1 => ?_)
    walk_at "rd"
    refine i_d (fun hk => ?_) (fun hk => ?_)
    · walk_at "rd"
      refine use_draw st1 (by omega) (by omega) (fun r H2 r0 r1 x2 st2 => ?_)
      walk_at "rd"
      exact k _ _ (by omega) (by omega) (x1.trans x2) st2
    · walk_at "rd"
      refine i_d (fun hk => ?_) (fun hk => ?_)
      · walk_at "rd"
        refine use_draw st1 (by decide) (by decide) (fun r H2 r0 r1 x2 st2 => ?_)
        walk_at "rd"
        refine use_draw st2 (by decide) (by decide) (fun e H3 e0 e1 x3 st3 => ?_)
        walk_at "rd"
        have he : e = 0 ∨ e = 1 := by omega
        rcases he with rfl | rfl
        · exact k _ _ (by omega) (by omega) ((x1.trans x2).trans x3) st3
        · exact k _ _ (by omega) (by omega) ((x1.trans x2).trans x3) st3
      · walk_at "rd"
        refine use_draw st1 (by decide) (by decide) (fun r H2 r0 r1 x2 st2 => ?_)
        walk_at "rd"
        exact k _ _ (by omega) (by omega) (x1.trans x2) st2
end

/-! ### ascending numbers -/
theorem Asc.app {ms : List Int} {z : Int} (h : Asc ms) (hz : ∀ y ∈ ms, y < z) : Asc (ms ++ [z]) := by
  unfold Asc
  rw [List.pairwise_append]
  exact ⟨h, List.pairwise_singleton _ _, fun a ha b hb => by
    rw [List.mem_singleton] at hb
    subst hb
    exact hz a ha⟩
def spAscending : Sp := fun vs H Q _ => ∃ (S L : Addr) (ns : List Int) (m : Int), vs = [.ref S, .int m] ∧ Strm S L ns H ∧ 0 < m ∧ m ≤ 25 ∧
  ∀ q ms H', H q = none → Ex S H H' → Strm S L ns H' → H' q = some (.lst (ms.map V.int)) → q ≠ S → q ≠ L → Asc ms → (ms.length : Int) < m → (∀ y ∈ ms, -(10 ^ 20) ≤ y ∧ y ≤ 10 ^ 20) → Q (.ref q) H'
section
variable {P : Program} {w : World} {K : PySem.W.Frag} {mg : Str → Option Value} {base : Heap}
theorem ok_ascending (T : Txt K mg) : FnOk P w K mg base CX0 3 T.a_ascending T.d_ascending ["_law_stream_here", "_law_most"] (spAscending) := by
  refine T.F_ascending.ok sc__law_ascending (fun vs H Q E h => ?_) (fun cdv A outer s H vs Q E hr h => ⟨_, (pss_cons (ps_set (i := 2) sc__law_ascending.nd rfl (.inl rfl) (pe_lst pa_nil))
      (pss_cons (ps_set (i := 3) sc__law_ascending.nd rfl (.inl rfl) (pe_call (ok_number T) (hr.mono (by decide)) (by rfl) T.g_number T.F_number.kp T.b_number .nil pass0 (pa_cons (pv 0) (pa_cons (pe_op op_pow pe_int pe_int) pa_nil))))
      (pss_cons (ps_for PassesOwn.never rfl (pi_range1 (by rfl) T.z_range (pa_cons (pe_call (ok_draw T) (hr.mono (by decide)) (by rfl) T.g_draw T.F_draw.kp T.b_draw .nil pass0 (pa_cons (pv 0) (pa_cons (pv 1) pa_nil))) pa_nil)) (pg_name (i := 4) sc__law_ascending.nd rfl (.inl rfl))
      (pss_cons (ps_expr (pe_bm PySem.F.plainAttrs_list PySem.F.slot_list_append PySem.F.type_list_append mt_append (pv 2) (pa_cons (pv 3) pa_nil)))
      (pss_cons (ps_set (i := 3) sc__law_ascending.nd rfl (.inl rfl) (pe_op op_add (pe_op op_add (pv 3) pe_int) (pe_call (ok_draw T) (hr.mono (by decide)) (by rfl) T.g_draw T.F_draw.kp T.b_draw .nil pass0 (pa_cons (pv 0) (pa_cons pe_int pa_nil)))))
      (pss_one (ps_if (pt_cmpR op_eq (pe_call (ok_draw T) (hr.mono (by decide)) (by rfl) T.g_draw T.F_draw.kp T.b_draw .nil pass0 (pa_cons (pv 0) (pa_cons pe_int pa_nil))) pe_int (nomark _))
      (pss_one (ps_set (i := 3) sc__law_ascending.nd rfl (.inl rfl) (pe_op op_add (pv 3) (pe_call (ok_draw T) (hr.mono (by decide)) (by rfl) T.g_draw T.F_draw.kp T.b_draw .nil pass0 (pa_cons (pv 0) (pa_cons (pe_op op_pow pe_int pe_int) pa_nil))))))
      pss_nil)))))
      (pss_one (ps_ret (pv 2)))))), ?_⟩)
  · first | (obtain ⟨rfl, _⟩ := h; rfl) | (obtain ⟨_, rfl, _⟩ := h; rfl) | (obtain ⟨_, _, rfl, _⟩ := h; rfl) | (obtain ⟨_, _, _, rfl, _⟩ := h; rfl) | (obtain ⟨_, _, _, _, rfl, _⟩ := h; rfl) | (obtain ⟨_, _, _, _, _, rfl, _⟩ := h; rfl) | (obtain ⟨_, _, _, _, _, _, rfl, _⟩ := h; rfl) | (obtain ⟨_, _, _, _, _, _, _, rfl, _⟩ := h; rfl) | (obtain ⟨_, _, _, _, _, _, _, _, rfl, _⟩ := h; rfl) | (obtain ⟨_, _, _, _, _, _, _, _, _, rfl, _⟩ := h; rfl) | (obtain ⟨_, _, _, _, _, _, _, _, _, _, rfl, _⟩ := h; rfl) | (obtain ⟨_, _, _, _, _, _, _, _, _, _, _, rfl, _⟩ := h; rfl) | (obtain ⟨_, _, _, _, _, _, _, _, _, _, _, _, rfl, _⟩ := h; rfl) | (obtain ⟨_, _, _, _, _, _, _, _, _, _, _, _, _, rfl, _⟩ := h; rfl) | (obtain ⟨_, _, _, _, _, _, _, _, _, _, _, _, _, _, rfl, _⟩ := h; rfl)
  · obtain ⟨S, L, ns, m, rfl, st, m0, m1, k⟩ := h
    try dsimp only [cxOf, Cx.nox, Cx.wish]
    refine st_of (σ := [some _, some _, none, none, none]) rfl ?_
    walk_at "rd"
    intro q hq
    have nqS := st.neS hq
    have nqL := st.neL hq
    walk_at "rd"
    refine use_number (st.new hq) (by decide) (by decide) (fun z H1 z0 z1 x1 st1 => ?_)
    have hq1 : H1 q = some (.lst []) := x1 _ _ nqS upd_same
    have x01 : Ex S H H1 := (Ex.new (Ex.refl _ _) hq).trans x1
    walk_at "rd"
    with_reducible refine c_rng1 ?_
    walk_at "rd"
    refine use_draw st1 m0 (by omega) (fun r H2 r0 r1 x2 st2 => ?_)
    walk_at "rd"
    refine ⟨by omega, by omega, for_range (lo := 0) (n := r.toNat) (fun i σ G => ∃ (ms : List Int) (last : Int) (e4 : Option V), σ = [some (.ref S), some (.int m), some (.ref q), some (.int last), e4] ∧ Strm S L ns G ∧ Ex S H G ∧ G q = some (.lst (ms.map V.int)) ∧ ms.length = i ∧ Asc ms ∧ (∀ y ∈ ms, y < last) ∧ (-(10 ^ 18) ≤ last ∧ last ≤ 10 ^ 18 + i * (10 ^ 18 + 10)) ∧ ∀ y ∈ ms, -(10 ^ 20) ≤ y ∧ y ≤ 10 ^ 20) ?_ ?_ ?_⟩
    · exact ⟨[], z, none, rfl, st2, x01.trans x2, x2 _ _ nqS hq1, rfl, List.Pairwise.nil, (fun y hy => nomatch hy), ⟨by omega, by omega⟩, fun y hy => nomatch hy⟩
    · rintro i σ G hi ⟨ms, last, e4, rfl, stG, xG, gq, hlen, asc, lt, ⟨lo, hi'⟩, bd⟩
      have hsz : (ms.map V.int).length < sizeLine := smallLt (by rw [List.length_map]; omega)
      have asc' := asc.app lt
      have bd' : ∀ y ∈ ms ++ [last], -(10 ^ 20) ≤ y ∧ y ≤ 10 ^ 20 := fun y hy => by
        rcases List.mem_append.mp hy with hy | hy
        · exact bd y hy
        · rw [List.mem_singleton] at hy
          subst hy
          constructor <;> omega
      have lt' : ∀ y ∈ ms ++ [last], y ≤ last := fun y hy => by
        rcases List.mem_append.mp hy with hy | hy
        · exact Int.le_of_lt (lt y hy)
        · rw [List.mem_singleton] at hy
          omega
      have eq : (upd G q (.lst (ms.map V.int ++ [.int last]))) q = some (.lst ((ms ++ [last]).map V.int)) := by
        rw [upd_same, List.map_append]
        rfl
      have st' := stG.upd (o := .lst (ms.map V.int ++ [.int last])) nqS nqL
      have xq : Ex S H (upd G q (.lst (ms.map V.int ++ [.int last]))) := Ex.mut xG hq
      walk_at "rd"
      refine use_draw st' (by decide) (by decide) (fun d G2 d0 d1 x3 st3 => ?_)
      walk_at "rd"
      refine use_draw st3 (by decide) (by decide) (fun e G3 e0 e1 x4 st4 => ?_)
      have hq4 := x4 _ _ nqS (x3 _ _ nqS eq)
      walk_at "rd"
      refine i_d (fun he => ?_) (fun he => ?_)
      · walk_at "rd"
        refine use_draw st4 (by decide) (by decide) (fun f G4 f0 f1 x5 st5 => ?_)
        walk_at "rd"
        exact ⟨ms ++ [last], last + 1 + d + f, some (.int (0 + (i : Int))), rfl, st5, ((xq.trans x3).trans x4).trans x5, x5 _ _ nqS hq4, by simp [hlen], asc', (fun y hy => by have := lt' y hy; omega), ⟨by omega, by omega⟩, bd'⟩
      · walk_at "rd"
        exact ⟨ms ++ [last], last + 1 + d, some (.int (0 + (i : Int))), rfl, st4, (xq.trans x3).trans x4, hq4, by simp [hlen], asc', (fun y hy => by have := lt' y hy; omega), ⟨by omega, by omega⟩, bd'⟩
    · rintro σ G ⟨ms, last, e4, rfl, stG, xG, gq, hlen, asc, lt, ⟨lo, hi'⟩, bd⟩
      walk_at "rd"
      exact k q ms G hq xG stG gq nqS nqL asc (by omega) bd
end

end Tac1
section Tac2
/-! ### the words: "rd" goes on as far as it can; "hp" finds what stands at an address; "t" "f" a test that is known -/
local macro_rules | `(tactic| walk_at "h0") => `(tactic| first | (with_reducible assumption) | with_reducible exact upd_same)
local macro_rules | `(tactic| walk_at "n0") => `(tactic| first
  | (with_reducible assumption) | (apply Ne.symm; with_reducible assumption) | exact ne_nn (by with_reducible assumption) (by walk_at "h0") | exact ne_nn' (by with_reducible assumption) (by walk_at "h0"))
local macro_rules | `(tactic| walk_at "hq") => `(tactic| first
  | (with_reducible assumption) | with_reducible exact upd_same | exact (upd_ne (by walk_at "n0")).trans (by walk_at "hq"))
local macro_rules | `(tactic| walk_at "ne") => `(tactic| first
  | (with_reducible assumption) | (apply Ne.symm; with_reducible assumption) | exact ne_nn (by with_reducible assumption) (by walk_at "hq") | exact ne_nn' (by with_reducible assumption) (by walk_at "hq"))
local macro_rules | `(tactic| walk_at "sm") => `(tactic| first
  | (with_reducible assumption)
  | with_reducible exact Same.refl _
  | exact same_new (by walk_at "sm") (by with_reducible assumption)
  | exact same_mut (by walk_at "sm") (by with_reducible assumption))
local macro_rules | `(tactic| walk_at "hp") => `(tactic| first
  | (with_reducible assumption)
  | with_reducible exact upd_same
  | exact new_at (by with_reducible assumption) (by walk_at "sm")
  | exact old_at (by with_reducible assumption) (by walk_at "sm")
  | exact (upd_ne (by walk_at "ne")).trans (by walk_at "hp")
  | exact same_at (by with_reducible assumption) (by walk_at "hp")
  | exact ex_at (by with_reducible assumption) (by walk_at "ne") (by walk_at "hp"))
local macro_rules | `(tactic| walk_at "ex") => `(tactic| first
  | (with_reducible assumption)
  | exact Ex.refl _ _
  | exact Ex.new (by walk_at "ex") (by with_reducible assumption)
  | exact Ex.mut (by walk_at "ex") (by with_reducible assumption)
  | exact Ex.at (by walk_at "ex"))
local macro_rules | `(tactic| walk_at "sa") => `(tactic| first
  | (with_reducible assumption)
  | exact seq' (by with_reducible assumption) (by walk_at "sm")
  | exact tup' (by with_reducible assumption) (by walk_at "sm"))
local macro_rules | `(tactic| walk_at "sq") => `(tactic| first
  | (with_reducible assumption)
  | exact seq' (by with_reducible assumption) (by walk_at "sm")
  | exact tup' (by with_reducible assumption) (by walk_at "sm")
  | exact sql (by walk_at "hp")
  | exact sqt (by walk_at "hp"))
local macro_rules | `(tactic| walk_at "tt") => `(tactic| first | (simp; done) | (simp; omega))
local macro_rules | `(tactic| walk_at "tf") => `(tactic| first
  | ((with_reducible show if _ = true then _ else _); refine i_T (by walk_at "tt") ?_)
  | ((with_reducible show if _ = true then _ else _); refine i_F (by walk_at "tt") ?_))
local macro_rules | `(tactic| walk_at "ix") => `(tactic| first
  | exact ixn (j := 0) (by simp)
  | exact ixn (j := 1) (by simp)
  | exact ixn (j := 2) (by simp)
  | exact ixn (j := 3) (by simp)
  | exact ixn (j := 4) (by simp)
  | exact ixn (j := 5) (by simp)
  | exact ixn (j := 6) (by simp)
  | exact ixn (j := 7) (by simp))
local macro_rules | `(tactic| walk_at "at") => `(tactic| first
  | exact atI_nat (j := 0) (by rfl)
  | exact atI_nat (j := 1) (by rfl)
  | exact atI_nat (j := 2) (by rfl)
  | exact atI_nat (j := 3) (by rfl)
  | exact atI_nat (j := 4) (by rfl)
  | exact atI_nat (j := 5) (by rfl)
  | exact atI_nat (j := 6) (by rfl)
  | exact atI_nat (j := 7) (by rfl))
local macro_rules | `(tactic| walk_at "rd1") => `(tactic| first
  | with_reducible refine c_seq ?_
  | with_reducible refine c_asg ?_
  | ((with_reducible refine c_gname ?_); try dsimp only [List.set])
  | with_reducible refine c_ret ?_
  | with_reducible refine c_ifs ?_
  | ((with_reducible show tVar _ _ _ _); refine c_var (by rfl) ?_)
  | with_reducible refine c_c ?_
  | with_reducible refine c_op ?_
  | with_reducible refine c_un ?_
  | with_reducible refine c_test ?_
  | with_reducible refine c_B ?_
  | with_reducible refine c_CB ?_
  | with_reducible refine c_cons ?_
  | with_reducible refine c_nil ?_
  | with_reducible refine c_call ?_
  | with_reducible refine c_lst ?_
  | with_reducible refine c_tup ?_
  | with_reducible refine c_drop ?_
  | with_reducible refine c_gsub ?_
  | with_reducible refine c_BM ?_
  | with_reducible refine c_BM0 ?_
  | with_reducible refine c_and ?_
  | with_reducible refine c_or ?_
  | with_reducible refine c_not ?_
  | with_reducible refine c_andV ?_
  | with_reducible refine c_orV ?_
  | with_reducible refine c_notV ?_
  | with_reducible refine c_if ?_
  | with_reducible refine c_chain ?_
  | with_reducible refine c_next ?_
  | with_reducible refine c_retN ?_
  | with_reducible refine c_yes ?_
  | ((with_reducible show rIn _ _ (V.bl _) _ _ _); first | refine r_inL (by walk_at "sq") rfl (flat_bl _) ?_ | refine r_inL (by walk_at "sq") rfl (by rfl) ?_)
  | with_reducible refine r_I0 ?_
  | with_reducible refine r_U ?_
  | with_reducible refine r_eqI ?_
  | with_reducible refine r_neI ?_
  | with_reducible refine r_eqB ?_
  | with_reducible refine r_neB ?_
  | with_reducible refine r_eqS ?_
  | with_reducible refine r_neS ?_
  | ((with_reducible show rIxL _ _ (V.int (OfNat.ofNat _)) _ _); refine r_ixL (by walk_at "sq") (by walk_at "at") ?_)
  | ((with_reducible show rIxT _ _ (V.int (OfNat.ofNat _)) _ _); refine r_ixT (by walk_at "sq") (by walk_at "at") ?_)
  | ((with_reducible show rI CMul _ _ _ _ _); refine r_I (by first | exact .inl ⟨by omega, by omega⟩ | exact .inr ⟨by omega, by omega⟩) ?_)
  | ((with_reducible show rI CDiv _ _ _ _ _); refine r_I ⟨by omega, by omega⟩ ?_)
  | ((with_reducible show rI (fun _ _ => _) _ _ _ _ _); refine r_I (by first | assumption | omega | decide) ?_)
  | with_reducible refine r_pow18 ?_
  | with_reducible refine r_pow17 ?_
  | ((with_reducible show rSetL _ _ _ _ _); refine r_setL (by walk_at "hp") (by walk_at "ix") ?_; try dsimp only [List.set]; try simp only [upd_upd])
  | ((with_reducible show tyV _ _ _ _ ∧ _); refine ⟨.inl ⟨rfl, _, by walk_at "sq"⟩, ?_⟩)
  | ((with_reducible show rPop _ _ _ _); refine r_pop (by walk_at "hp") ?_)
  | ((with_reducible show rAppend _ _ _ _); refine r_app (by walk_at "hp") (by first | assumption | exact smallLt (by omega) | exact smallLt (by simp <;> omega)) ?_)
  | ((with_reducible show _ ≤ sizeLine ∧ _); refine ⟨small (by simp), ?_⟩)
  | ((with_reducible show V.non = V.non ∧ _); refine ⟨rfl, ?_⟩)
  | with_reducible refine iteT ?_
  | with_reducible refine iteF ?_
  | with_reducible refine ⟨_, rfl, ?_⟩
  | with_reducible refine ⟨_, _, rfl, ?_⟩
  | with_reducible refine Or.inl ⟨_, rfl, ?_⟩
  | with_reducible refine Or.inr ⟨_, rfl, ?_⟩
  | ((with_reducible show ∃ _ _, [_] = [_] ∧ _); first
    | refine ⟨_, _, rfl, Or.inl (by walk_at "sa"), ?_⟩ | refine ⟨_, _, rfl, Or.inr (by walk_at "sa"), ?_⟩
    | refine ⟨_, _, rfl, Or.inl (by exact sql (by walk_at "hp")), ?_⟩ | refine ⟨_, _, rfl, Or.inr (by exact sqt (by walk_at "hp")), ?_⟩))
local macro_rules | `(tactic| walk_at "nw") => `(tactic| (intro _ _))
local macro_rules | `(tactic| walk_at "rdn") => `(tactic| repeat (first | walk_at "rd1" | ((with_reducible show ∀ _ : Addr, _ = none → _); intro _ _)))
local macro_rules | `(tactic| walk_at "rd") => `(tactic| repeat walk_at "rd1")

local macro_rules | `(tactic| walk_at "tp") => `(tactic| first
  | (with_reducible assumption)
  | with_reducible exact Tp.refl _
  | exact Tp.same (by walk_at "sm")
  | exact Tp.new (by walk_at "tp") (by with_reducible assumption)
  | exact Tp.lst (by walk_at "tp") (by walk_at "hp"))
local macro_rules | `(tactic| walk_at "rd1") => `(tactic| first
  | with_reducible refine c_sl ?_
  | with_reducible refine c_noPart ?_
  | with_reducible refine c_part ?_
  | ((with_reducible show rSlL _ _ _ _ _ _); refine r_slL (by walk_at "sq") ?_))
local macro_rules | `(tactic| walk_at "no") => `(tactic| ((with_reducible show if decide _ = true then _ else _); refine i_F (decide_eq_false (by decide +kernel)) ?_))
local macro_rules | `(tactic| walk_at "yes") => `(tactic| ((with_reducible show if decide _ = true then _ else _); refine i_T (decide_eq_true (by first | rfl | decide +kernel)) ?_))
local macro_rules | `(tactic| walk_at "wd") => `(tactic| repeat (first | walk_at "rd1" | walk_at "no" | walk_at "yes"))

section
variable {P : Program} {w : World} {K : PySem.W.Frag} {mg : Str → Option Value} {base : Heap}
theorem ok_class_starts (T : Txt K mg) : FnOk P w K mg base CX0 1 T.a_class_starts T.d_class_starts ["numbers"] (spStarts K) := by
  refine T.F_class_starts.ok sc_class_starts (fun vs H Q E h => ?_) (fun cdv A outer s H vs Q E hr h => ⟨_, (pss_one (ps_ret (pe_callB (cr_sortedSet rfl) (by rfl) T.z_sorted (by decide +kernel) (pa_cons (pe_callTy (cr_setOfI rfl) (by rfl) T.z_set (by decide +kernel) (pa_cons (pe_op op_cat (pe_callTy call_list_of (by rfl) T.z_list (by decide +kernel) (pa_cons (pv 0) pa_nil)) (pe_lc (own := [("number", 1)]) (g := gName 1) (tt := tYes) rfl sc_class_starts.nd (pi_list (pv 0)) (blkOk_by (own := [("number", 1)]) (N := N_class_starts) (sc := defScope s_class_starts) (by decide +kernel)) (fun _ _ _ _ _ => pg_name (i := 1) sc_class_starts.nd rfl (Or.inl rfl)) (fun _ _ _ _ _ => pts_nil) (fun _ _ _ _ _ => (pe_op op_add (pv 1) pe_int)))) pa_nil)) pa_nil)))), ?_⟩)
  · first | (obtain ⟨rfl, _⟩ := h; rfl) | (obtain ⟨_, rfl, _⟩ := h; rfl) | (obtain ⟨_, _, rfl, _⟩ := h; rfl) | (obtain ⟨_, _, _, rfl, _⟩ := h; rfl) | (obtain ⟨_, _, _, _, rfl, _⟩ := h; rfl) | (obtain ⟨_, _, _, _, _, rfl, _⟩ := h; rfl) | (obtain ⟨_, _, _, _, _, _, rfl, _⟩ := h; rfl) | (obtain ⟨_, _, _, _, _, _, _, rfl, _⟩ := h; rfl) | (obtain ⟨_, _, _, _, _, _, _, _, rfl, _⟩ := h; rfl) | (obtain ⟨_, _, _, _, _, _, _, _, _, rfl, _⟩ := h; rfl) | (obtain ⟨_, _, _, _, _, _, _, _, _, _, rfl, _⟩ := h; rfl) | (obtain ⟨_, _, _, _, _, _, _, _, _, _, _, rfl, _⟩ := h; rfl) | (obtain ⟨_, _, _, _, _, _, _, _, _, _, _, _, rfl, _⟩ := h; rfl) | (obtain ⟨_, _, _, _, _, _, _, _, _, _, _, _, _, rfl, _⟩ := h; rfl) | (obtain ⟨_, _, _, _, _, _, _, _, _, _, _, _, _, _, rfl, _⟩ := h; rfl)
  · obtain ⟨a, ms, rfl, hS, hl, as, k⟩ := h
    try dsimp only [cxOf, Cx.nox, Cx.wish]
    refine st_of (σ := [some _, none]) rfl ?_
    have lm : (ms.map V.int).length = ms.length := List.length_map ..
    walk_at "rd"
    intro l1 h1
    have s1 : Same H (upd H l1 (.lst (ms.map V.int))) := by walk_at "sm"
    have g1 : (upd H l1 (.lst (ms.map V.int))) l1 = some (.lst (ms.map V.int)) := upd_same
    generalize upd H l1 (.lst (ms.map V.int)) = H1 at s1 g1 ⊢
    walk_at "rd"
    with_reducible refine c_lcL ?_
    walk_at "rd"
    refine ⟨⟨_, seq' hS s1⟩, fun D hD => lc_list (xs := ms.map V.int) (fun i G => Same H1 G ∧ G D = some (.lst (((ms.take i).map (· + 1)).map V.int))) ?_ ?_ ?_ ?_⟩
    · exact ⟨same_new (Same.refl _) hD, upd_same⟩
    · rintro i G _ ⟨sG, _⟩
      exact seq' (seq' hS s1) sG
    · rintro i y G hi ⟨sG, gD⟩
      obtain ⟨hi1, rfl⟩ := List.getElem?_eq_some_iff.mp hi
      rw [lm] at hi1
      rw [List.getElem_map]
      walk_at "rd"
      refine ⟨rfl, ?_⟩
      walk_at "rd"
      refine ⟨_, gD, smallLt (by rw [List.length_map, List.length_map, List.length_take]; omega), same_mut sG hD, ?_⟩
      rw [upd_same, List.take_succ_eq_append_getElem hi1, List.map_append, List.map_append]
      rfl
    · rintro G ⟨sG, gD⟩
      rw [List.length_map, List.take_length] at gD
      have gl := sG _ _ g1
      refine r_cat gl gD (small (by simp; omega)) (fun r hr => ?_)
      have nr : ((ms ++ ms.map (· + 1)).map V.int) = ms.map V.int ++ (ms.map (· + 1)).map V.int := List.map_append
      rw [← nr]
      walk_at "rd"
      refine ⟨r, ms ++ ms.map (· + 1), rfl, sql upd_same, by simp; omega, fun p c hp hc => ?_⟩
      walk_at "rd"
      refine ⟨p, _, c, rfl, upd_same, by simp at hc; omega, fun zs q za zm zl hq => ?_⟩
      have e : zs = stl ms ms.length := asc_ext za (stl_asc as (Nat.le_refl _)) fun z => by
        rw [zm, stl_all as]
        simp
        constructor
        · rintro (h | ⟨b, hb, e⟩)
          · exact .inl h
          · rw [← e]
            exact .inr (by simpa using hb)
        · rintro (h | h)
          · exact .inl h
          · exact .inr ⟨_, h, by omega⟩
      subst e
      have sm : Same H (upd (upd (upd G r (.lst ((ms ++ ms.map (· + 1)).map V.int))) p (SetO w p (fun j => decide (j ∈ ms ++ ms.map (· + 1))) c)) q (.lst ((stl ms ms.length).map V.int))) := same_new (same_new (same_new (s1.trans sG) hr) hp) hq
      walk_at "rd"
      exact k q _ (free' hq (same_new (same_new (s1.trans sG) hr) hp)) sm upd_same
end


/-! ### near a number; the class of a value -/
def spNear : Sp := fun vs H Q _ => ∃ (S L : Addr) (ns : List Int) (q : Addr) (ms : List Int), vs = [.ref S, .ref q] ∧ Strm S L ns H ∧ H q = some (.lst (ms.map V.int)) ∧ q ≠ S ∧ ms.length ≤ 25 ∧ (∀ y ∈ ms, -(10 ^ 20) ≤ y ∧ y ≤ 10 ^ 20) ∧
  ∀ z H', -(10 ^ 21) ≤ z → z ≤ 10 ^ 21 → Ex S H H' → Strm S L ns H' → Q (.int z) H'
def spClass (K : PySem.W.Frag) : Sp := fun vs H Q _ => ∃ (v : Option Int) (q : Addr) (ms : List Int), vs = [oi v, .ref q] ∧ SqL K H q (ms.map V.int) ∧ ms.length ≤ 25 ∧ ∀ H', Same H H' → Q (.int (clsO ms v)) H'
theorem at_nth0 {ms : List Int} {r : Int} (h0 : 0 ≤ r) (h1 : r < ms.length) : atI (ms.map V.int) r = some (.int (nth0 ms r.toNat)) := by
  rw [show r = ((r.toNat : Nat) : Int) by omega]
  exact atI_nat (nth0_at (by omega))
theorem below_take {ms : List Int} {z : Int} {i : Nat} (h : i < ms.length) : below (ms.take (i + 1)) z = below (ms.take i) z ++ if nth0 ms i < z then [nth0 ms i] else [] := by
  unfold below
  rw [List.take_succ_eq_append_getElem h, List.filter_append, nth0_eq h]
  by_cases q : ms[i] < z
  · rw [if_pos q]
    simp [q]
  · rw [if_neg q]
    simp [q]
section
variable {P : Program} {w : World} {K : PySem.W.Frag} {mg : Str → Option Value} {base : Heap}
theorem ok_near (T : Txt K mg) : FnOk P w K mg base CX0 3 T.a_near T.d_near ["_law_stream_here", "_law_numbers"] (spNear) := by
  refine T.F_near.ok sc__law_near (fun vs H Q E h => ?_) (fun cdv A outer s H vs Q E hr h => ⟨_, (pss_cons (ps_if (PW.pt (pw_or (pt_cmpR op_eq (pe_callB call_len_seq (by rfl) T.z_len PySem.boot_len (pa_cons (pv 1) pa_nil)) pe_int (nomark _)) (pw_or1 (pt_cmpR op_eq (pe_call (ok_draw T) (hr.mono (by decide)) (by rfl) T.g_draw T.F_draw.kp T.b_draw .nil pass0 (pa_cons (pv 0) (pa_cons pe_int pa_nil))) pe_int (nomark _)))))
      (pss_one (ps_ret (pe_call (ok_number T) (hr.mono (by decide)) (by rfl) T.g_number T.F_number.kp T.b_number .nil pass0 (pa_cons (pv 0) (pa_cons (pe_op op_pow pe_int pe_int) pa_nil)))))
      pss_nil)
      (pss_one (ps_ret (pe_op op_sub (pe_op op_add (pe_ix ix_list (pv 1) (pe_call (ok_draw T) (hr.mono (by decide)) (by rfl) T.g_draw T.F_draw.kp T.b_draw .nil pass0 (pa_cons (pv 0) (pa_cons (pe_callB call_len_seq (by rfl) T.z_len PySem.boot_len (pa_cons (pv 1) pa_nil)) pa_nil))) (fun _ _ => rfl)) (pe_call (ok_draw T) (hr.mono (by decide)) (by rfl) T.g_draw T.F_draw.kp T.b_draw .nil pass0 (pa_cons (pv 0) (pa_cons pe_int pa_nil)))) pe_int)))), ?_⟩)
  · first | (obtain ⟨rfl, _⟩ := h; rfl) | (obtain ⟨_, rfl, _⟩ := h; rfl) | (obtain ⟨_, _, rfl, _⟩ := h; rfl) | (obtain ⟨_, _, _, rfl, _⟩ := h; rfl) | (obtain ⟨_, _, _, _, rfl, _⟩ := h; rfl) | (obtain ⟨_, _, _, _, _, rfl, _⟩ := h; rfl) | (obtain ⟨_, _, _, _, _, _, rfl, _⟩ := h; rfl) | (obtain ⟨_, _, _, _, _, _, _, rfl, _⟩ := h; rfl) | (obtain ⟨_, _, _, _, _, _, _, _, rfl, _⟩ := h; rfl) | (obtain ⟨_, _, _, _, _, _, _, _, _, rfl, _⟩ := h; rfl) | (obtain ⟨_, _, _, _, _, _, _, _, _, _, rfl, _⟩ := h; rfl) | (obtain ⟨_, _, _, _, _, _, _, _, _, _, _, rfl, _⟩ := h; rfl) | (obtain ⟨_, _, _, _, _, _, _, _, _, _, _, _, rfl, _⟩ := h; rfl) | (obtain ⟨_, _, _, _, _, _, _, _, _, _, _, _, _, rfl, _⟩ := h; rfl) | (obtain ⟨_, _, _, _, _, _, _, _, _, _, _, _, _, _, rfl, _⟩ := h; rfl)
  · obtain ⟨S, L, ns, q, ms, rfl, st, hq, nqS, hl, bd, k⟩ := h
    try dsimp only [cxOf, Cx.nox, Cx.wish]
    refine st_of (σ := [some _, some _]) rfl ?_
    have lm : (ms.map V.int).length = ms.length := List.length_map ..
    walk_at "rd"
    refine i_d (fun hz => ?_) (fun hz => ?_)
    · walk_at "rd"
      refine use_number st (by decide) (by decide) (fun z H1 z0 z1 x1 st1 => ?_)
      walk_at "rd"
      exact k _ _ (by omega) (by omega) x1 st1
    · walk_at "rd"
      refine use_draw st (by decide) (by decide) (fun kd H1 k0 k1 x1 st1 => ?_)
      walk_at "rd"
      have hq1 := x1 _ _ nqS hq
      refine i_d (fun hk => ?_) (fun hk => ?_)
      · walk_at "rd"
        refine use_number st1 (by decide) (by decide) (fun z H2 z0 z1 x2 st2 => ?_)
        walk_at "rd"
        exact k _ _ (by omega) (by omega) (x1.trans x2) st2
      · walk_at "rd"
        refine use_draw st1 (by omega) (by omega) (fun r H2 r0 r1 x2 st2 => ?_)
        walk_at "rd"
        refine r_ixL (sql (x2 _ _ nqS hq1)) (at_nth0 r0 (by omega)) ?_
        walk_at "rd"
        refine use_draw st2 (by decide) (by decide) (fun e H3 e0 e1 x3 st3 => ?_)
        walk_at "rd"
        have b := bd _ (nth0_mem.mpr ⟨r.toNat, by omega, rfl⟩)
        exact k _ _ (by omega) (by omega) ((x1.trans x2).trans x3) st3
theorem ok_class (T : Txt K mg) : FnOk P w K mg base CX0 1 T.a_class T.d_class ["_law_value", "_law_numbers"] (spClass K) := by
  refine T.F_class.ok sc__law_class (fun vs H Q E h => ?_) (fun cdv A outer s H vs Q E hr h => ⟨_, (pss_cons (ps_if (pt_cmpR op_isN (pv 0) pe_non (nomark _))
      (pss_one (ps_ret (pe_un un_neg pe_int)))
      pss_nil)
      (pss_one (ps_ret (pe_op op_add (pe_op op_mul pe_int (pe_callB call_len_seq (by rfl) T.z_len PySem.boot_len (pa_cons (pe_lc (own := [("_law_n", 2)]) (g := gName 2) rfl sc__law_class.nd (pi_list (pv 1)) (blkOk_by (own := [("_law_n", 2)]) (N := N__law_class) (sc := defScope s__law_class) (by decide +kernel)) (fun _ _ _ _ _ => pg_name (i := 2) sc__law_class.nd rfl (Or.inl rfl)) (fun _ _ _ _ _ => pts_one (pt_cmpR op_lt (pv 2) (pv 0) (nomark _))) (fun _ _ _ _ _ => (pv 2))) pa_nil))) (pe_callTy call_int1 (by rfl) T.z_int (by decide +kernel) (pa_cons (pe_cmpR op_in_seq (pv 0) (pv 1) (by rfl)) pa_nil)))))), ?_⟩)
  · first | (obtain ⟨rfl, _⟩ := h; rfl) | (obtain ⟨_, rfl, _⟩ := h; rfl) | (obtain ⟨_, _, rfl, _⟩ := h; rfl) | (obtain ⟨_, _, _, rfl, _⟩ := h; rfl) | (obtain ⟨_, _, _, _, rfl, _⟩ := h; rfl) | (obtain ⟨_, _, _, _, _, rfl, _⟩ := h; rfl) | (obtain ⟨_, _, _, _, _, _, rfl, _⟩ := h; rfl) | (obtain ⟨_, _, _, _, _, _, _, rfl, _⟩ := h; rfl) | (obtain ⟨_, _, _, _, _, _, _, _, rfl, _⟩ := h; rfl) | (obtain ⟨_, _, _, _, _, _, _, _, _, rfl, _⟩ := h; rfl) | (obtain ⟨_, _, _, _, _, _, _, _, _, _, rfl, _⟩ := h; rfl) | (obtain ⟨_, _, _, _, _, _, _, _, _, _, _, rfl, _⟩ := h; rfl) | (obtain ⟨_, _, _, _, _, _, _, _, _, _, _, _, rfl, _⟩ := h; rfl) | (obtain ⟨_, _, _, _, _, _, _, _, _, _, _, _, _, rfl, _⟩ := h; rfl) | (obtain ⟨_, _, _, _, _, _, _, _, _, _, _, _, _, _, rfl, _⟩ := h; rfl)
  · obtain ⟨v, q, ms, rfl, hq, hl, k⟩ := h
    try dsimp only [cxOf, Cx.nox, Cx.wish]
    refine st_of (σ := [some _, some _, none]) rfl ?_
    have lm : (ms.map V.int).length = ms.length := List.length_map ..
    rcases v with _ | z
    · dsimp only [oi]
      walk_at "rd"
      refine i_T (decide_eq_true rfl) ?_
      walk_at "rd"
      exact k _ (Same.refl _)
    · dsimp only [oi]
      walk_at "rd"
      refine i_F (decide_eq_false fun z => nomatch z) ?_
      walk_at "rd"
      with_reducible refine c_lcL ?_
      walk_at "rd"
      refine ⟨⟨_, hq⟩, fun D hD => lc_list (xs := ms.map V.int) (fun i G => Same H G ∧ G D = some (.lst ((below (ms.take i) z).map V.int))) ?_ ?_ ?_ ?_⟩
      · exact ⟨same_new (Same.refl _) hD, upd_same⟩
      · rintro i G _ ⟨sG, _⟩
        exact seq' hq sG
      · rintro i y G hi ⟨sG, gD⟩
        obtain ⟨hi1, rfl⟩ := List.getElem?_eq_some_iff.mp hi
        rw [lm] at hi1
        rw [List.getElem_map, below_take hi1, nth0_eq hi1]
        walk_at "rd"
        refine ⟨rfl, ?_⟩
        have hsz : (below (ms.take i) z).length ≤ 1000 := Nat.le_trans (List.length_filter_le _ _) (by rw [List.length_take]; omega)
        walk_at "rd"
        refine i_d (fun hn => ?_) (fun hn => ?_)
        · walk_at "rd"
          refine ⟨_, gD, smallLt (by rw [List.length_map]; omega), same_mut sG hD, ?_⟩
          rw [upd_same, if_pos hn, List.map_append]
          rfl
        · walk_at "rd"
          rw [if_neg hn, List.append_nil]
          exact ⟨sG, gD⟩
      · rintro G ⟨sG, gD⟩
        rw [List.length_map, List.take_length] at gD
        walk_at "rd"
        refine r_inL (seq' hq sG) rfl (flat_int ms) ?_
        rw [in_int]
        walk_at "rd"
        have e : (2 * ((List.map V.int (below ms z)).length : Int) + if (if false = true then !decide (z ∈ ms) else decide (z ∈ ms)) = true then 1 else 0) = clsO ms (some z) := by
          rw [List.length_map]
          unfold clsO cls
          by_cases m : z ∈ ms <;> simp [m]
        show Q _ G
        rw [e]
        exact k _ sG
end

def spWithin (K : PySem.W.Frag) : Sp := fun vs H Q _ => ∃ (a : Addr) (ms : List Int) (lo hi : Int), vs = [.ref a, .int lo, .int hi] ∧ SqL K H a (ms.map V.int) ∧ ms.length ≤ 25 ∧ Asc ms ∧ ∀ p H', H p = none → Same H H' → H' p = some (.lst ((wth ms lo hi).map V.int)) → Q (.ref p) H'
def spLaw (K : PySem.W.Frag) : Sp := fun vs H Q _ => ∃ (a : Addr) (ns : List Int), vs = [.ref a] ∧ SqL K H a (ns.map V.int) ∧ ns.length ≤ 63 ∧ ∀ H', Q (.bl true) H'
section
variable {P : Program} {w : World} {K : PySem.W.Frag} {mg : Str → Option Value} {base : Heap}
theorem ok_within (T : Txt K mg) : FnOk P w K mg base CX0 2 T.a_within T.d_within ["numbers", "low", "high"] (spWithin K) := by
  refine T.F_within.ok sc_within (fun vs H Q E h => ?_) (fun cdv A outer s H vs Q E hr h => ⟨_, (pss_one (ps_ret (pe_op op_cat (pe_lst (pa_cons (pv 1) pa_nil)) (pe_lc (own := [("start", 3)]) (g := gName 3) rfl sc_within.nd (pi_list (pe_call (ok_class_starts T) (hr.mono (by decide)) (by rfl) T.g_class_starts T.F_class_starts.kp T.b_class_starts .nil pass0 (pa_cons (pv 0) pa_nil))) (blkOk_by (own := [("start", 3)]) (N := N_within) (sc := defScope s_within) (by decide +kernel)) (fun _ _ _ _ _ => pg_name (i := 3) sc_within.nd rfl (Or.inl rfl)) (fun _ _ _ _ _ => pts_one (pt_chain op_lt op_le (pv 1) (pv 3) (pv 2))) (fun _ _ _ _ _ => (pv 3)))))), ?_⟩)
  · first | (obtain ⟨rfl, _⟩ := h; rfl) | (obtain ⟨_, rfl, _⟩ := h; rfl) | (obtain ⟨_, _, rfl, _⟩ := h; rfl) | (obtain ⟨_, _, _, rfl, _⟩ := h; rfl) | (obtain ⟨_, _, _, _, rfl, _⟩ := h; rfl) | (obtain ⟨_, _, _, _, _, rfl, _⟩ := h; rfl) | (obtain ⟨_, _, _, _, _, _, rfl, _⟩ := h; rfl) | (obtain ⟨_, _, _, _, _, _, _, rfl, _⟩ := h; rfl) | (obtain ⟨_, _, _, _, _, _, _, _, rfl, _⟩ := h; rfl) | (obtain ⟨_, _, _, _, _, _, _, _, _, rfl, _⟩ := h; rfl) | (obtain ⟨_, _, _, _, _, _, _, _, _, _, rfl, _⟩ := h; rfl) | (obtain ⟨_, _, _, _, _, _, _, _, _, _, _, rfl, _⟩ := h; rfl) | (obtain ⟨_, _, _, _, _, _, _, _, _, _, _, _, rfl, _⟩ := h; rfl) | (obtain ⟨_, _, _, _, _, _, _, _, _, _, _, _, _, rfl, _⟩ := h; rfl) | (obtain ⟨_, _, _, _, _, _, _, _, _, _, _, _, _, _, rfl, _⟩ := h; rfl)
  · obtain ⟨a, ms, lo, hi, rfl, hS, hl, as, k⟩ := h
    try dsimp only [cxOf, Cx.nox, Cx.wish]
    refine st_of (σ := [some _, some _, some _, none]) rfl ?_
    walk_at "rd"
    intro l hl0
    walk_at "rd"
    with_reducible refine c_lcL ?_
    walk_at "rd"
    refine ⟨a, ms, rfl, by walk_at "sq", hl, as, fun p H1 hp s1 h1 => ?_⟩
    have gl := s1 _ _ (upd_same (H := H) (a := l) (o := .lst [.int lo]))
    have s01 : Same H H1 := Same.trans (same_new (Same.refl _) hl0) s1
    have ls : ((stl ms ms.length).map V.int).length = (stl ms ms.length).length := List.length_map ..
    have hst := stl_len ms ms.length
    walk_at "rd"
    refine ⟨⟨_, sql h1⟩, fun D hD => lc_list (xs := (stl ms ms.length).map V.int) (fun i G => Same H1 G ∧ G D = some (.lst ((((stl ms ms.length).take i).filter fun s => decide (lo < s) && decide (s ≤ hi)).map V.int))) ?_ ?_ ?_ ?_⟩
    · exact ⟨same_new (Same.refl _) hD, upd_same⟩
    · rintro i G _ ⟨sG, _⟩
      exact sql (sG _ _ h1)
    · rintro i y G hi0 ⟨sG, gD⟩
      obtain ⟨hi1, rfl⟩ := List.getElem?_eq_some_iff.mp hi0
      rw [ls] at hi1
      rw [List.getElem_map, filt_take hi1]
      generalize (stl ms ms.length)[i] = z
      have hsz : (((stl ms ms.length).take i).filter fun s => decide (lo < s) && decide (s ≤ hi)).length ≤ 1000 := Nat.le_trans (List.length_filter_le _ _) (by rw [List.length_take]; omega)
      walk_at "rd"
      refine ⟨rfl, ?_⟩
      walk_at "rd"
      refine i_d (fun q1 => ?_) (fun q1 => ?_)
      · walk_at "rd"
        refine i_d (fun q2 => ?_) (fun q2 => ?_)
        · walk_at "rd"
          refine ⟨_, gD, smallLt (by rw [List.length_map]; omega), same_mut sG hD, ?_⟩
          rw [upd_same, if_pos (by simp [q1, q2]), List.map_append]
          rfl
        · walk_at "rd"
          rw [if_neg (by simp [q2]), List.append_nil]
          exact ⟨sG, gD⟩
      · walk_at "rd"
        rw [if_neg (by simp [q1]), List.append_nil]
        exact ⟨sG, gD⟩
    · rintro G ⟨sG, gD⟩
      rw [ls, List.take_length] at gD
      have hsz : ((stl ms ms.length).filter fun s => decide (lo < s) && decide (s ≤ hi)).length ≤ 1000 := Nat.le_trans (List.length_filter_le _ _) (by omega)
      have gl2 := sG _ _ gl
      refine r_cat gl2 gD (small (by rw [List.length_map]; simp; omega)) (fun r hr => ?_)
      walk_at "rd"
      exact k r _ (free' hr (s01.trans sG)) (same_new (s01.trans sG) hr) (by rw [upd_same]; rfl)
def spLeast (K : PySem.W.Frag) : Sp := fun vs H Q _ => ∃ (a : Addr) (ms : List Int) (lo hi : Int), vs = [.ref a, .int lo, .int hi] ∧ SqL K H a (ms.map V.int) ∧ ms.length ≤ 25 ∧ Asc ms ∧ ∀ p H', H p = none → Same H H' → H' p = some (.lst ((wth ms lo hi).map V.int)) → Q (.ref p) H'
theorem ok_least (T : Txt K mg) : FnOk P w K mg base CX0 1 T.a_least T.d_least ["_law_numbers", "_law_low", "_law_high"] (spLeast K) := by
  refine T.F_least.ok sc__law_least (fun vs H Q E h => ?_) (fun cdv A outer s H vs Q E hr h => ⟨_, (pss_cons (ps_set (i := 3) sc__law_least.nd rfl (.inl rfl) (pe_lst (pa_cons (pv 1) pa_nil)))
      (pss_cons (ps_for PassesOwn.never rfl (pi_list (pv 0)) (pg_name (i := 4) sc__law_least.nd rfl (.inl rfl))
      (pss_one (ps_for PassesOwn.never rfl (pi_list (pe_lst (pa_cons (pv 4) (pa_cons (pe_op op_add (pv 4) pe_int) pa_nil)))) (pg_name (i := 5) sc__law_least.nd rfl (.inl rfl))
      (pss_one (ps_if (PW.pt (pw_and (pt_cmpR op_le (pv 1) (pv 5) (nomark _)) (pw_and (pt_cmpR op_le (pv 5) (pv 2) (nomark _)) (pw_and1 (pt_cmpR op_notIn_seq (pv 5) (pv 3) (by rfl))))))
      (pss_one (ps_expr (pe_bm PySem.F.plainAttrs_list PySem.F.slot_list_append PySem.F.type_list_append mt_append (pv 3) (pa_cons (pv 5) pa_nil))))
      pss_nil)))))
      (pss_one (ps_ret (pe_callB cr_sortedI (by rfl) T.z_sorted (by decide +kernel) (pa_cons (pv 3) pa_nil)))))), ?_⟩)
  · first | (obtain ⟨rfl, _⟩ := h; rfl) | (obtain ⟨_, rfl, _⟩ := h; rfl) | (obtain ⟨_, _, rfl, _⟩ := h; rfl) | (obtain ⟨_, _, _, rfl, _⟩ := h; rfl) | (obtain ⟨_, _, _, _, rfl, _⟩ := h; rfl) | (obtain ⟨_, _, _, _, _, rfl, _⟩ := h; rfl) | (obtain ⟨_, _, _, _, _, _, rfl, _⟩ := h; rfl) | (obtain ⟨_, _, _, _, _, _, _, rfl, _⟩ := h; rfl) | (obtain ⟨_, _, _, _, _, _, _, _, rfl, _⟩ := h; rfl) | (obtain ⟨_, _, _, _, _, _, _, _, _, rfl, _⟩ := h; rfl) | (obtain ⟨_, _, _, _, _, _, _, _, _, _, rfl, _⟩ := h; rfl) | (obtain ⟨_, _, _, _, _, _, _, _, _, _, _, rfl, _⟩ := h; rfl) | (obtain ⟨_, _, _, _, _, _, _, _, _, _, _, _, rfl, _⟩ := h; rfl) | (obtain ⟨_, _, _, _, _, _, _, _, _, _, _, _, _, rfl, _⟩ := h; rfl) | (obtain ⟨_, _, _, _, _, _, _, _, _, _, _, _, _, _, rfl, _⟩ := h; rfl)
  · obtain ⟨a, ms, lo, hi, rfl, hS, hl, as, k⟩ := h
    try dsimp only [cxOf, Cx.nox, Cx.wish]
    refine st_of (σ := [some _, some _, some _, none, none, none]) rfl ?_
    have lm : (ms.map V.int).length = ms.length := List.length_map ..
    walk_at "rd"
    intro f hf
    walk_at "rd"
    with_reducible refine c_forList ?_
    walk_at "rd"
    have sf : Same H (upd H f (.lst [.int lo])) := by walk_at "sm"
    refine ⟨⟨_, seq' hS sf⟩, for_list (xs := ms.map V.int) (fun i σ G => ∃ (e4 e5 : Option V), σ = [some (.ref a), some (.int lo), some (.int hi), some (.ref f), e4, e5] ∧ Same H G ∧ G f = some (.lst ((fnd ms lo hi i).map V.int))) ?_ ?_ ?_ ?_⟩
    · exact ⟨_, _, rfl, sf, upd_same⟩
    · rintro i σ G _ ⟨e4, e5, rfl, sG, gf⟩
      exact seq' hS sG
    · rintro i y σ G hi0 ⟨e4, e5, rfl, sG, gf⟩
      obtain ⟨hi1, rfl⟩ := List.getElem?_eq_some_iff.mp hi0
      rw [lm] at hi1
      rw [List.getElem_map, ← nth0_eq hi1]
      walk_at "rd"
      with_reducible refine c_forList ?_
      walk_at "rd"
      intro l hl0
      have nf : f ≠ l := ne_of_none gf hl0
      walk_at "rd"
      have fl := fnd_len ms lo hi i
      refine ⟨⟨_, sql upd_same⟩, for_list (xs := [V.int (nth0 ms i), V.int (nth0 ms i + 1)]) (fun j σ G2 => ∃ (e5 : Option V), σ = [some (.ref a), some (.int lo), some (.int hi), some (.ref f), some (.int (nth0 ms i)), e5] ∧ Same H G2 ∧ G2 l = some (.lst [V.int (nth0 ms i), V.int (nth0 ms i + 1)]) ∧ G2 f = some (.lst ((([nth0 ms i, nth0 ms i + 1].take j).foldl (addS lo hi) (fnd ms lo hi i)).map V.int)) ∧ (([nth0 ms i, nth0 ms i + 1].take j).foldl (addS lo hi) (fnd ms lo hi i)).length ≤ 1 + 2 * i + j) ?_ ?_ ?_ ?_⟩
      · exact ⟨_, rfl, same_new sG hl0, upd_same, (upd_ne nf).trans gf, by simpa using fl⟩
      · rintro j σ G2 _ ⟨e5, rfl, sG2, gl2, gf2, _⟩
        exact sql gl2
      · rintro j y σ G2 hj ⟨e5, rfl, sG2, gl2, gf2, len2⟩
        have hj1 : [nth0 ms i, nth0 ms i + 1].map V.int = [V.int (nth0 ms i), V.int (nth0 ms i + 1)] := rfl
        rw [← hj1] at hj
        obtain ⟨hj2, rfl⟩ := List.getElem?_eq_some_iff.mp hj
        rw [List.length_map] at hj2
        have hj3 : j < 2 := hj2
        rw [List.getElem_map, List.take_succ_eq_append_getElem hj2, List.foldl_append]
        generalize [nth0 ms i, nth0 ms i + 1][j] = s
        generalize ([nth0 ms i, nth0 ms i + 1].take j).foldl (addS lo hi) (fnd ms lo hi i) = g at gf2 len2 ⊢
        have al := addS_len (lo := lo) (hi := hi) (s := s) (f := g)
        have e1 : [s].foldl (addS lo hi) g = addS lo hi g s := rfl
        rw [e1]
        have no : (¬ ((lo ≤ s ∧ s ≤ hi) ∧ s ∉ g)) → Same H G2 ∧ G2 l = some (.lst [V.int (nth0 ms i), V.int (nth0 ms i + 1)]) ∧ G2 f = some (.lst ((addS lo hi g s).map V.int)) ∧ (addS lo hi g s).length ≤ 1 + 2 * i + (j + 1) := fun q => by
          have e : addS lo hi g s = g := if_neg q
          exact ⟨sG2, gl2, by rw [e]; exact gf2, by omega⟩
        have hsz : (g.map V.int).length < sizeLine := smallLt (by rw [List.length_map]; omega)
        walk_at "rd"
        refine i_d (fun q1 => ?_) (fun q1 => ?_)
        · walk_at "rd"
          refine i_d (fun q2 => ?_) (fun q2 => ?_)
          · walk_at "rd"
            refine r_inL (sql gf2) rfl (flat_int g) ?_
            rw [in_int, if_pos rfl]
            walk_at "rd"
            refine i_n (fun q3 => ?_) (fun q3 => ?_)
            · walk_at "rd"
              have e : addS lo hi g s = g ++ [s] := if_pos ⟨⟨q1, q2⟩, q3⟩
              refine ⟨same_mut sG2 hf, (upd_ne nf.symm).trans gl2, ?_, by omega⟩
              rw [upd_same, e, List.map_append]
              rfl
            · walk_at "rd"
              exact no fun q => q.2 q3
          · walk_at "rd"
            exact no fun q => q2 q.1.2
        · walk_at "rd"
          exact no fun q => q1 q.1.1
      · rintro σ G2 ⟨e5, rfl, sG2, gl2, gf2, len2⟩
        exact ⟨_, _, rfl, sG2, gf2⟩
    · rintro σ G ⟨e4, e5, rfl, sG, gf⟩
      rw [lm] at gf
      walk_at "rd"
      refine ⟨f, fnd ms lo hi ms.length, rfl, sql gf, fun zs p hp hs hn => ?_⟩
      rw [sorted_fnd as hp hs]
      walk_at "rd"
      exact k p _ (free' hn sG) (same_new sG hn) upd_same
theorem ok_law {f : Addr} {fd : FuncData} (F : Fun K "law" "law" s_law f fd) (T : Txt K mg) : FnOk P w K mg base CX0 5 f fd ["_law_script"] (spLaw K) := by
  refine F.ok sc_law (fun vs H Q E h => ?_) (fun cdv A outer s H vs Q E hr h => ⟨_, (pss_cons (ps_set (i := 1) sc_law.nd rfl (.inl rfl) (pe_call (ok_stream T) (hr.mono (by decide)) (by rfl) T.g_stream T.F_stream.kp T.b_stream .nil pass0 (pa_cons (pv 0) pa_nil)))
      (pss_cons (ps_set (i := 2) sc_law.nd rfl (.inr rfl) (pe_call (ok_ascending T) (hr.mono (by decide)) (by rfl) T.g_ascending T.F_ascending.kp T.b_ascending .nil pass0 (pa_cons (pv 1) (pa_cons pe_int pa_nil))))
      (pss_cons (ps_set (i := 3) sc_law.nd rfl (.inl rfl) (pe_callTy call_list_of (by rfl) T.z_list (by decide +kernel) (pa_cons (pv 2) pa_nil)))
      (pss_cons (ps_set (i := 4) sc_law.nd rfl (.inl rfl) (pe_call (ok_near T) (hr.mono (by decide)) (by rfl) T.g_near T.F_near.kp T.b_near .nil pass0 (pa_cons (pv 1) (pa_cons (pv 2) pa_nil))))
      (pss_cons (ps_set (i := 5) sc_law.nd rfl (.inl rfl) (pe_call (ok_near T) (hr.mono (by decide)) (by rfl) T.g_near T.F_near.kp T.b_near .nil pass0 (pa_cons (pv 1) (pa_cons (pv 2) pa_nil))))
      (pss_cons (ps_set (i := 6) sc_law.nd rfl (.inl rfl) (pe_callB (call_min2 rfl) (by rfl) T.z_min (by decide +kernel) (pa_cons (pv 4) (pa_cons (pv 5) pa_nil))))
      (pss_cons (ps_set (i := 7) sc_law.nd rfl (.inl rfl) (pe_callB (call_max2 rfl) (by rfl) T.z_max (by decide +kernel) (pa_cons (pv 4) (pa_cons (pv 5) pa_nil))))
      (pss_cons (ps_set (i := 8) sc_law.nd rfl (.inl rfl) (pe_call (ok_least T) (hr.mono (by decide)) (by rfl) T.g_least T.F_least.kp T.b_least .nil pass0 (pa_cons (pv 2) (pa_cons (pv 6) (pa_cons (pv 7) pa_nil)))))
      (pss_cons (ps_set (i := 9) sc_law.nd rfl (.inl rfl) (pe_call (ok_within T) (hr.mono (by decide)) (by rfl) T.g_within T.F_within.kp T.b_within .nil pass0 (pa_cons (pv 2) (pa_cons (pv 6) (pa_cons (pv 7) pa_nil)))))
      (pss_cons (ps_if (pt_not (pt_val (pe_call (ok_alike T) (hr.mono (by decide)) (by rfl) T.g_alike T.F_alike.kp T.b_alike .nil pass0 (pa_cons (pv 9) (pa_cons (pv 8) pa_nil)))))
      (pss_one (ps_ret pe_bl))
      pss_nil)
      (pss_cons (ps_expr (pe_bm PySem.F.plainAttrs_list PySem.F.slot_list_append PySem.F.type_list_append mt_append (pv 9) (pa_cons pe_non pa_nil)))
      (pss_cons (ps_set (i := 9) sc_law.nd rfl (.inl rfl) (pe_call (ok_within T) (hr.mono (by decide)) (by rfl) T.g_within T.F_within.kp T.b_within .nil pass0 (pa_cons (pv 2) (pa_cons (pv 6) (pa_cons (pv 7) pa_nil)))))
      (pss_cons (ps_for PassesOwn.never rfl (pi_range1 (by rfl) T.z_range (pa_cons (pe_op op_add pe_int (pe_call (ok_draw T) (hr.mono (by decide)) (by rfl) T.g_draw T.F_draw.kp T.b_draw .nil pass0 (pa_cons (pv 1) (pa_cons pe_int pa_nil)))) pa_nil)) (pg_name (i := 10) sc_law.nd rfl (.inl rfl))
      (pss_cons (ps_set (i := 11) sc_law.nd rfl (.inl rfl) (pe_op op_add (pv 6) (pe_call (ok_draw T) (hr.mono (by decide)) (by rfl) T.g_draw T.F_draw.kp T.b_draw .nil pass0 (pa_cons (pv 1) (pa_cons (pe_op op_add (pe_op op_sub (pv 7) (pv 6)) pe_int) pa_nil)))))
      (pss_cons (ps_set (i := 12) sc_law.nd rfl (.inr rfl) (pe_call (ok_class T) (hr.mono (by decide)) (by rfl) T.g_class T.F_class.kp T.b_class .nil pass0 (pa_cons (pv 11) (pa_cons (pv 2) pa_nil))))
      (pss_one (ps_if (pt_cmpR op_ne (pe_callB call_len_seq (by rfl) T.z_len PySem.boot_len (pa_cons (pe_lc (own := [("_law_least_here", 13)]) (g := gName 13) rfl sc_law.nd (pi_list (pv 9)) (blkOk_by (own := [("_law_least_here", 13)]) (N := N_law) (sc := defScope s_law) (by decide +kernel)) (fun _ _ _ _ _ => pg_name (i := 13) sc_law.nd rfl (Or.inl rfl)) (fun _ _ _ _ _ => pts_one (pt_cmpR op_eq (pe_call (ok_class T) (hr.mono (by decide)) (by rfl) T.g_class T.F_class.kp T.b_class .nil pass0 (pa_cons (pv 13) (pa_cons (pv 2) pa_nil))) (pv 12) (nomark _))) (fun _ _ _ _ _ => (pv 13))) pa_nil)) pe_int (nomark _))
      (pss_one (ps_ret pe_bl))
      pss_nil)))))
      (pss_one (ps_ret (pe_and (pe_call (ok_alike T) (hr.mono (by decide)) (by rfl) T.g_alike T.F_alike.kp T.b_alike .nil pass0 (pa_cons (pv 9) (pa_cons (pv 8) pa_nil))) (pe_one (pe_call (ok_alike T) (hr.mono (by decide)) (by rfl) T.g_alike T.F_alike.kp T.b_alike .nil pass0 (pa_cons (pv 2) (pa_cons (pv 3) pa_nil)))))))))))))))))))), ?_⟩)
  · first | (obtain ⟨rfl, _⟩ := h; rfl) | (obtain ⟨_, rfl, _⟩ := h; rfl) | (obtain ⟨_, _, rfl, _⟩ := h; rfl) | (obtain ⟨_, _, _, rfl, _⟩ := h; rfl) | (obtain ⟨_, _, _, _, rfl, _⟩ := h; rfl) | (obtain ⟨_, _, _, _, _, rfl, _⟩ := h; rfl) | (obtain ⟨_, _, _, _, _, _, rfl, _⟩ := h; rfl) | (obtain ⟨_, _, _, _, _, _, _, rfl, _⟩ := h; rfl) | (obtain ⟨_, _, _, _, _, _, _, _, rfl, _⟩ := h; rfl) | (obtain ⟨_, _, _, _, _, _, _, _, _, rfl, _⟩ := h; rfl) | (obtain ⟨_, _, _, _, _, _, _, _, _, _, rfl, _⟩ := h; rfl) | (obtain ⟨_, _, _, _, _, _, _, _, _, _, _, rfl, _⟩ := h; rfl) | (obtain ⟨_, _, _, _, _, _, _, _, _, _, _, _, rfl, _⟩ := h; rfl) | (obtain ⟨_, _, _, _, _, _, _, _, _, _, _, _, _, rfl, _⟩ := h; rfl) | (obtain ⟨_, _, _, _, _, _, _, _, _, _, _, _, _, _, rfl, _⟩ := h; rfl)
  · obtain ⟨a, ns, rfl, hS, hl, k⟩ := h
    try dsimp only [cxOf, Cx.nox, Cx.wish]
    refine st_of (σ := [some _, none, none, none, none, none, none, none, none, none, none, none, none, none]) rfl ?_
    walk_at "rd"
    refine ⟨a, ns, rfl, hS, hl, fun S L H1 _ _ st1 => ?_⟩
    walk_at "rd"
    refine ⟨S, L, ns, 21, rfl, st1, by decide, by decide, fun q ms H2 _ x2 st2 hq nqS nqL asc hlen bd => ?_⟩
    have lm : (ms.map V.int).length = ms.length := List.length_map ..
    walk_at "rd"
    intro kp hkp
    have nkS := st2.neS hkp
    walk_at "rd"
    have gq2 : (upd H2 kp (.lst (ms.map V.int))) q = some (.lst (ms.map V.int)) := by walk_at "hp"
    refine ⟨S, L, ns, q, ms, rfl, st2.new hkp, gq2, nqS, by omega, bd, fun x H3 xl xh x3 st3 => ?_⟩
    have gq3 := x3 _ _ nqS gq2
    have gk3 := x3 _ _ nkS upd_same
    walk_at "rd"
    refine ⟨S, L, ns, q, ms, rfl, st3, gq3, nqS, by omega, bd, fun y H4 yl yh x4 st4 => ?_⟩
    have gq4 := x4 _ _ nqS gq3
    have gk4 := x4 _ _ nkS gk3
    walk_at "rd"
    have hlh : (if y < x then y else x) ≤ (if y > x then y else x) := by split <;> split <;> omega
    have hll : -(10 ^ 21) ≤ (if y < x then y else x) := by split <;> omega
    have hhh : (if y > x then y else x) ≤ 10 ^ 21 := by split <;> omega
    generalize (if y < x then y else x) = lo at hlh hll ⊢
    generalize (if y > x then y else x) = hi at hlh hhh ⊢
    have wl := wth_len ms lo hi
    refine ⟨q, ms, lo, hi, rfl, sql gq4, by omega, asc, fun d H5 hd s5 h5 => ?_⟩
    have gq5 := s5 _ _ gq4
    have gk5 := s5 _ _ gk4
    have st5 := st4.same s5
    have ndS := st4.neS hd
    walk_at "rd"
    refine ⟨q, ms, lo, hi, rfl, sql gq5, by omega, asc, fun t H6 ht s6 h6 => ?_⟩
    have gq6 := s6 _ _ gq5
    have gk6 := s6 _ _ gk5
    have gd6 := s6 _ _ h5
    have st6 := st5.same s6
    have ntS := st5.neS ht
    have ntL := st5.neL ht
    have nqt : q ≠ t := ne_of_none gq5 ht
    have nkt : kp ≠ t := ne_of_none gk5 ht
    have ndt : d ≠ t := ne_of_none h5 ht
    walk_at "rd"
    refine use_alike (.lst (sql h6) (sql gd6) (Als.ints _)) (by omega) (fun H7 s7 => ?_)
    have gq7 := (upd_ne (o := .lst ((wth ms lo hi).map V.int ++ [.non])) nqt).trans (s7 _ _ gq6)
    have gk7 := (upd_ne (o := .lst ((wth ms lo hi).map V.int ++ [.non])) nkt).trans (s7 _ _ gk6)
    have gd7 := (upd_ne (o := .lst ((wth ms lo hi).map V.int ++ [.non])) ndt).trans (s7 _ _ gd6)
    have gt7 := s7 _ _ h6
    have st7 := (st6.same s7).upd (o := .lst ((wth ms lo hi).map V.int ++ [.non])) ntS ntL
    have hsz : ((wth ms lo hi).map V.int).length < sizeLine := smallLt (by rw [List.length_map]; omega)
    walk_at "rd"
    walk_at "tf"
    walk_at "rd"
    refine ⟨q, ms, lo, hi, rfl, sql gq7, by omega, asc, fun u H8 hu s8 h8 => ?_⟩
    have gq8 := s8 _ _ gq7
    have gk8 := s8 _ _ gk7
    have gd8 := s8 _ _ gd7
    have st8 := st7.same s8
    have nuS := st7.neS hu
    have lw : ((wth ms lo hi).map V.int).length = (wth ms lo hi).length := List.length_map ..
    walk_at "rd"
    with_reducible refine c_rng1 ?_
    walk_at "rd"
    refine use_draw st8 (by decide) (by decide) (fun r H9 r0 r1 x9 st9 => ?_)
    walk_at "rd"
    refine ⟨by omega, by omega, for_range (lo := 0) (n := (1 + r).toNat) (fun i σ G => ∃ (e10 e11 e12 : Option V), σ = [some (.ref a), some (.ref S), some (.ref q), some (.ref kp), some (.int x), some (.int y), some (.int lo), some (.int hi), some (.ref d), some (.ref u), e10, e11, e12, none] ∧ Strm S L ns G ∧ Ex S H8 G) ?_ ?_ ?_⟩
    · exact ⟨_, _, _, rfl, st9, x9⟩
    · rintro i σ G hi0 ⟨e10, e11, e12, rfl, stG, xG⟩
      walk_at "rd"
      refine use_draw stG (by omega) (by omega) (fun z G1 z0 z1 y1 stG1 => ?_)
      have xG1 := xG.trans y1
      have gqG := xG1 _ _ nqS gq8
      have guG := xG1 _ _ nuS h8
      walk_at "rd"
      refine ⟨some (lo + z), q, ms, rfl, sql gqG, by omega, fun G2 s2 => ?_⟩
      walk_at "rd"
      with_reducible refine c_lcL ?_
      walk_at "rd"
      refine ⟨⟨_, sql (s2 _ _ guG)⟩, fun D hD => lc_list (xs := (wth ms lo hi).map V.int) (fun i G => Same G2 G ∧ G D = some (.lst ((((wth ms lo hi).take i).filter fun s => decide (cls ms s = cls ms (lo + z))).map V.int))) ?_ ?_ ?_ ?_⟩
      · exact ⟨same_new (Same.refl _) hD, upd_same⟩
      · rintro i G _ ⟨sG, _⟩
        exact sql (sG _ _ (s2 _ _ guG))
      · rintro j y G3 hj ⟨sG, gD⟩
        obtain ⟨hj1, rfl⟩ := List.getElem?_eq_some_iff.mp hj
        rw [lw] at hj1
        rw [List.getElem_map, filt_take hj1]
        generalize (wth ms lo hi)[j] = s
        have hsz2 : (((wth ms lo hi).take j).filter fun s => decide (cls ms s = cls ms (lo + z))).length ≤ 1000 := Nat.le_trans (List.length_filter_le _ _) (by rw [List.length_take]; omega)
        walk_at "rd"
        refine ⟨rfl, ?_⟩
        walk_at "rd"
        refine ⟨some s, q, ms, rfl, sql (sG _ _ (s2 _ _ gqG)), by omega, fun G4 s4 => ?_⟩
        have gD4 := s4 _ _ gD
        walk_at "rd"
        refine i_d (fun (q1 : cls ms s = cls ms (lo + z)) => ?_) (fun (q1 : ¬ cls ms s = cls ms (lo + z)) => ?_)
        · walk_at "rd"
          refine ⟨_, gD4, smallLt (by rw [List.length_map]; omega), same_mut (sG.trans s4) hD, ?_⟩
          rw [upd_same, if_pos (decide_eq_true q1), List.map_append]
          rfl
        · walk_at "rd"
          rw [if_neg (by rw [decide_eq_true_eq]; exact q1), List.append_nil]
          exact ⟨sG.trans s4, gD4⟩
      · rintro G3 ⟨sG, gD⟩
        rw [lw, List.take_length] at gD
        have one := one_class asc (lo := lo) (hi := hi) (v := lo + z) (by omega) (by omega)
        walk_at "rd"
        refine i_F (by rw [List.length_map, one]; rfl) ?_
        walk_at "rd"
        exact ⟨_, _, _, rfl, stG1.same (s2.trans sG), fun b o n h => sG _ _ (s2 _ _ (xG1 b o n h))⟩
    · rintro σ G ⟨e10, e11, e12, rfl, stG, xG⟩
      have gqG := xG _ _ nqS gq8
      have gkG := xG _ _ nkS gk8
      have gdG := xG _ _ ndS gd8
      have guG := xG _ _ nuS h8
      walk_at "rd"
      refine use_alike (.lst (sql guG) (sql gdG) (Als.ints _)) (by omega) (fun H10 s10 => ?_)
      walk_at "rd"
      refine use_alike (.lst (sql (s10 _ _ gqG)) (sql (s10 _ _ gkG)) (Als.ints _)) (by omega) (fun H11 s11 => ?_)
      walk_at "rd"
      exact k _
end
end Tac2
theorem all_mk {l : PySem.W.OpenLaw} {w : World} {K : PySem.W.Frag} {h : Heap} {mg : Str → Option Value} {fa : Addr} (X : K.In h) (G : h.Ns mainGlobals mg) (hfa : mg "law" = some (.ref fa))
    {f0 : Addr} {od0 an0 : Option Addr} {sl0 : Array (Option Value)} {oc0 kV0 dc0 pm0 cd0 ct0 : Value}
    {f1 : Addr} {od1 an1 : Option Addr} {sl1 : Array (Option Value)} {oc1 kV1 dc1 pm1 cd1 ct1 : Value}
    {f2 : Addr} {od2 an2 : Option Addr} {sl2 : Array (Option Value)} {oc2 kV2 dc2 pm2 cd2 ct2 : Value}
    {f3 : Addr} {od3 an3 : Option Addr} {sl3 : Array (Option Value)} {oc3 kV3 dc3 pm3 cd3 ct3 : Value}
    {f4 : Addr} {od4 an4 : Option Addr} {sl4 : Array (Option Value)} {oc4 kV4 dc4 pm4 cd4 ct4 : Value}
    {f5 : Addr} {od5 an5 : Option Addr} {sl5 : Array (Option Value)} {oc5 kV5 dc5 pm5 cd5 ct5 : Value}
    {f6 : Addr} {od6 an6 : Option Addr} {sl6 : Array (Option Value)} {oc6 kV6 dc6 pm6 cd6 ct6 : Value}
    {f7 : Addr} {od7 an7 : Option Addr} {sl7 : Array (Option Value)} {oc7 kV7 dc7 pm7 cd7 ct7 : Value}
    {f8 : Addr} {od8 an8 : Option Addr} {sl8 : Array (Option Value)} {oc8 kV8 dc8 pm8 cd8 ct8 : Value}
    {f9 : Addr} {od9 an9 : Option Addr} {sl9 : Array (Option Value)} {oc9 kV9 dc9 pm9 cd9 ct9 : Value}
    {f10 : Addr} {od10 an10 : Option Addr} {sl10 : Array (Option Value)} {oc10 kV10 dc10 pm10 cd10 ct10 : Value}
    (a0 : PySem.W.nsIn K mainGlobals "class_starts" = some (some (.ref f0)))
    (l0 : K.lookup f0 = some ⟨oc0, od0, .func (PySem.W.fnOf "class_starts" "class_starts" (defArgs s_class_starts) (defBody s_class_starts) (defScope s_class_starts) .none kV0 dc0 pm0 an0 cd0 ct0), sl0⟩)
    (c0 : PySem.W.codeIn K cd0 "class_starts" = true)
    (k0 : PySem.W.keepIn K (.ref f0) = true)
    (a1 : PySem.W.nsIn K mainGlobals "within" = some (some (.ref f1)))
    (l1 : K.lookup f1 = some ⟨oc1, od1, .func (PySem.W.fnOf "within" "within" (defArgs s_within) (defBody s_within) (defScope s_within) .none kV1 dc1 pm1 an1 cd1 ct1), sl1⟩)
    (c1 : PySem.W.codeIn K cd1 "within" = true)
    (k1 : PySem.W.keepIn K (.ref f1) = true)
    (a2 : PySem.W.nsIn K mainGlobals "_law_stream" = some (some (.ref f2)))
    (l2 : K.lookup f2 = some ⟨oc2, od2, .func (PySem.W.fnOf "_law_stream" "_law_stream" (defArgs s__law_stream) (defBody s__law_stream) (defScope s__law_stream) .none kV2 dc2 pm2 an2 cd2 ct2), sl2⟩)
    (c2 : PySem.W.codeIn K cd2 "_law_stream" = true)
    (k2 : PySem.W.keepIn K (.ref f2) = true)
    (a3 : PySem.W.nsIn K mainGlobals "_law_draw" = some (some (.ref f3)))
    (l3 : K.lookup f3 = some ⟨oc3, od3, .func (PySem.W.fnOf "_law_draw" "_law_draw" (defArgs s__law_draw) (defBody s__law_draw) (defScope s__law_draw) .none kV3 dc3 pm3 an3 cd3 ct3), sl3⟩)
    (c3 : PySem.W.codeIn K cd3 "_law_draw" = true)
    (k3 : PySem.W.keepIn K (.ref f3) = true)
    (a4 : PySem.W.nsIn K mainGlobals "_law_number" = some (some (.ref f4)))
    (l4 : K.lookup f4 = some ⟨oc4, od4, .func (PySem.W.fnOf "_law_number" "_law_number" (defArgs s__law_number) (defBody s__law_number) (defScope s__law_number) .none kV4 dc4 pm4 an4 cd4 ct4), sl4⟩)
    (c4 : PySem.W.codeIn K cd4 "_law_number" = true)
    (k4 : PySem.W.keepIn K (.ref f4) = true)
    (a5 : PySem.W.nsIn K mainGlobals "_law_ascending" = some (some (.ref f5)))
    (l5 : K.lookup f5 = some ⟨oc5, od5, .func (PySem.W.fnOf "_law_ascending" "_law_ascending" (defArgs s__law_ascending) (defBody s__law_ascending) (defScope s__law_ascending) .none kV5 dc5 pm5 an5 cd5 ct5), sl5⟩)
    (c5 : PySem.W.codeIn K cd5 "_law_ascending" = true)
    (k5 : PySem.W.keepIn K (.ref f5) = true)
    (a6 : PySem.W.nsIn K mainGlobals "_law_near" = some (some (.ref f6)))
    (l6 : K.lookup f6 = some ⟨oc6, od6, .func (PySem.W.fnOf "_law_near" "_law_near" (defArgs s__law_near) (defBody s__law_near) (defScope s__law_near) .none kV6 dc6 pm6 an6 cd6 ct6), sl6⟩)
    (c6 : PySem.W.codeIn K cd6 "_law_near" = true)
    (k6 : PySem.W.keepIn K (.ref f6) = true)
    (a7 : PySem.W.nsIn K mainGlobals "_law_class" = some (some (.ref f7)))
    (l7 : K.lookup f7 = some ⟨oc7, od7, .func (PySem.W.fnOf "_law_class" "_law_class" (defArgs s__law_class) (defBody s__law_class) (defScope s__law_class) .none kV7 dc7 pm7 an7 cd7 ct7), sl7⟩)
    (c7 : PySem.W.codeIn K cd7 "_law_class" = true)
    (k7 : PySem.W.keepIn K (.ref f7) = true)
    (a8 : PySem.W.nsIn K mainGlobals "_law_alike" = some (some (.ref f8)))
    (l8 : K.lookup f8 = some ⟨oc8, od8, .func (PySem.W.fnOf "_law_alike" "_law_alike" (defArgs s__law_alike) (defBody s__law_alike) (defScope s__law_alike) .none kV8 dc8 pm8 an8 cd8 ct8), sl8⟩)
    (c8 : PySem.W.codeIn K cd8 "_law_alike" = true)
    (k8 : PySem.W.keepIn K (.ref f8) = true)
    (a9 : PySem.W.nsIn K mainGlobals "_law_least" = some (some (.ref f9)))
    (l9 : K.lookup f9 = some ⟨oc9, od9, .func (PySem.W.fnOf "_law_least" "_law_least" (defArgs s__law_least) (defBody s__law_least) (defScope s__law_least) .none kV9 dc9 pm9 an9 cd9 ct9), sl9⟩)
    (c9 : PySem.W.codeIn K cd9 "_law_least" = true)
    (k9 : PySem.W.keepIn K (.ref f9) = true)
    (a10 : PySem.W.nsIn K mainGlobals "law" = some (some (.ref f10)))
    (l10 : K.lookup f10 = some ⟨oc10, od10, .func (PySem.W.fnOf "law" "law" (defArgs s_law) (defBody s_law) (defScope s_law) .none kV10 dc10 pm10 an10 cd10 ct10), sl10⟩)
    (c10 : PySem.W.codeIn K cd10 "law" = true)
    (k10 : PySem.W.keepIn K (.ref f10) = true)
    (z_abs : PySem.W.nsIn K mainGlobals "abs" = some none)
    (z_bool : PySem.W.nsIn K mainGlobals "bool" = some none)
    (z_int : PySem.W.nsIn K mainGlobals "int" = some none)
    (z_isinstance : PySem.W.nsIn K mainGlobals "isinstance" = some none)
    (z_len : PySem.W.nsIn K mainGlobals "len" = some none)
    (z_list : PySem.W.nsIn K mainGlobals "list" = some none)
    (z_max : PySem.W.nsIn K mainGlobals "max" = some none)
    (z_min : PySem.W.nsIn K mainGlobals "min" = some none)
    (z_range : PySem.W.nsIn K mainGlobals "range" = some none)
    (z_set : PySem.W.nsIn K mainGlobals "set" = some none)
    (z_sorted : PySem.W.nsIn K mainGlobals "sorted" = some none)
    (z_str : PySem.W.nsIn K mainGlobals "str" = some none)
    (z_tuple : PySem.W.nsIn K mainGlobals "tuple" = some none) :
    ∃ fd : FuncData, (∀ (s : Shared) (v : Value), BindsTo s fd ⟨[v], []⟩ [("_law_script", v)]) ∧ ∀ base : Heap, K.In base → base.Ns mainGlobals mg → FnOk l.prog w K mg base CX0 5 fa fd ["_law_script"] (spLaw K) := by
  have e := hfa.symm.trans (PySem.W.mg_of X G a10)
  cases e
  have F0 := fun_mk (st := s_class_starts) l0 c0 k0
  have b0 := F0.binds (ps := ["numbers"]) fun _ _ _ _ _ _ us hl => match us, hl with | [_], _ => rfl
  have F1 := fun_mk (st := s_within) l1 c1 k1
  have b1 := F1.binds (ps := ["numbers", "low", "high"]) fun _ _ _ _ _ _ us hl => match us, hl with | [_, _, _], _ => rfl
  have F2 := fun_mk (st := s__law_stream) l2 c2 k2
  have b2 := F2.binds (ps := ["_law_script"]) fun _ _ _ _ _ _ us hl => match us, hl with | [_], _ => rfl
  have F3 := fun_mk (st := s__law_draw) l3 c3 k3
  have b3 := F3.binds (ps := ["_law_stream_here", "_law_many"]) fun _ _ _ _ _ _ us hl => match us, hl with | [_, _], _ => rfl
  have F4 := fun_mk (st := s__law_number) l4 c4 k4
  have b4 := F4.binds (ps := ["_law_stream_here", "_law_most"]) fun _ _ _ _ _ _ us hl => match us, hl with | [_, _], _ => rfl
  have F5 := fun_mk (st := s__law_ascending) l5 c5 k5
  have b5 := F5.binds (ps := ["_law_stream_here", "_law_most"]) fun _ _ _ _ _ _ us hl => match us, hl with | [_, _], _ => rfl
  have F6 := fun_mk (st := s__law_near) l6 c6 k6
  have b6 := F6.binds (ps := ["_law_stream_here", "_law_numbers"]) fun _ _ _ _ _ _ us hl => match us, hl with | [_, _], _ => rfl
  have F7 := fun_mk (st := s__law_class) l7 c7 k7
  have b7 := F7.binds (ps := ["_law_value", "_law_numbers"]) fun _ _ _ _ _ _ us hl => match us, hl with | [_, _], _ => rfl
  have F8 := fun_mk (st := s__law_alike) l8 c8 k8
  have b8 := F8.binds (ps := ["_law_told", "_law_due"]) fun _ _ _ _ _ _ us hl => match us, hl with | [_, _], _ => rfl
  have F9 := fun_mk (st := s__law_least) l9 c9 k9
  have b9 := F9.binds (ps := ["_law_numbers", "_law_low", "_law_high"]) fun _ _ _ _ _ _ us hl => match us, hl with | [_, _, _], _ => rfl
  have F10 := fun_mk (st := s_law) l10 c10 k10
  have T : Txt K mg := { a_class_starts := _, d_class_starts := _, F_class_starts := F0, b_class_starts := b0, g_class_starts := PySem.W.mg_of X G a0, a_within := _, d_within := _, F_within := F1, b_within := b1, g_within := PySem.W.mg_of X G a1, a_stream := _, d_stream := _, F_stream := F2, b_stream := b2, g_stream := PySem.W.mg_of X G a2, a_draw := _, d_draw := _, F_draw := F3, b_draw := b3, g_draw := PySem.W.mg_of X G a3, a_number := _, d_number := _, F_number := F4, b_number := b4, g_number := PySem.W.mg_of X G a4, a_ascending := _, d_ascending := _, F_ascending := F5, b_ascending := b5, g_ascending := PySem.W.mg_of X G a5, a_near := _, d_near := _, F_near := F6, b_near := b6, g_near := PySem.W.mg_of X G a6, a_class := _, d_class := _, F_class := F7, b_class := b7, g_class := PySem.W.mg_of X G a7, a_alike := _, d_alike := _, F_alike := F8, b_alike := b8, g_alike := PySem.W.mg_of X G a8, a_least := _, d_least := _, F_least := F9, b_least := b9, g_least := PySem.W.mg_of X G a9, z_abs := PySem.W.mg_none_of X G z_abs, z_bool := PySem.W.mg_none_of X G z_bool, z_int := PySem.W.mg_none_of X G z_int, z_isinstance := PySem.W.mg_none_of X G z_isinstance, z_len := PySem.W.mg_none_of X G z_len, z_list := PySem.W.mg_none_of X G z_list, z_max := PySem.W.mg_none_of X G z_max, z_min := PySem.W.mg_none_of X G z_min, z_range := PySem.W.mg_none_of X G z_range, z_set := PySem.W.mg_none_of X G z_set, z_sorted := PySem.W.mg_none_of X G z_sorted, z_str := PySem.W.mg_none_of X G z_str, z_tuple := PySem.W.mg_none_of X G z_tuple }
  exact ⟨PySem.W.fnOf "law" "law" (defArgs s_law) (defBody s_law) (defScope s_law) .none kV10 dc10 pm10 an10 cd10 ct10, fun s v => .of_eq rfl, fun base _ _ => ok_law F10 T⟩
end Y
open PySem PySem.W PyProof.Rows
set_option maxHeartbeats 0 in
theorem PySem.Challenge.cw_wholepages_k15_within_holds : PySem.Challenge.rw_wholepages_k15_within.Holds := by
  w_on; o_law; k_head; (case hw => w_witness2)
  k_fill
  refine L2.walk_of (l := PySem.Challenge.rw_wholepages_k15_within) (n := 63) (k := 5) (x := "_law_script") (CX := fun _ => L2.CX0) (sp := fun w => Y.spLaw _) rfl (by decide) rfl ⟨rfl, by decide, by decide⟩ (fun w h Y => PySem.W.kIn_of Y) ?F (fun _ _ a ns hl _ hS => ⟨a, ns, rfl, hS, hl, fun _ => rfl⟩) (fun _ _ _ _ _ h => h)
  case F =>
    intro w mg fa h KX G hmg
    refine' Y.all_mk KX G hmg ?a0 ?l0 ?c0 ?k0 ?a1 ?l1 ?c1 ?k1 ?a2 ?l2 ?c2 ?k2 ?a3 ?l3 ?c3 ?k3 ?a4 ?l4 ?c4 ?k4 ?a5 ?l5 ?c5 ?k5 ?a6 ?l6 ?c6 ?k6 ?a7 ?l7 ?c7 ?k7 ?a8 ?l8 ?c8 ?k8 ?a9 ?l9 ?c9 ?k9 ?a10 ?l10 ?c10 ?k10 ?z_abs ?z_bool ?z_int ?z_isinstance ?z_len ?z_list ?z_max ?z_min ?z_range ?z_set ?z_sorted ?z_str ?z_tuple
    (case a0 => k_is); (case l0 => k_is); (case c0 => k_is); (case k0 => k_is); (case a1 => k_is); (case l1 => k_is); (case c1 => k_is); (case k1 => k_is); (case a2 => k_is); (case l2 => k_is); (case c2 => k_is); (case k2 => k_is); (case a3 => k_is); (case l3 => k_is); (case c3 => k_is); (case k3 => k_is); (case a4 => k_is); (case l4 => k_is); (case c4 => k_is); (case k4 => k_is); (case a5 => k_is); (case l5 => k_is); (case c5 => k_is); (case k5 => k_is); (case a6 => k_is); (case l6 => k_is); (case c6 => k_is); (case k6 => k_is); (case a7 => k_is); (case l7 => k_is); (case c7 => k_is); (case k7 => k_is); (case a8 => k_is); (case l8 => k_is); (case c8 => k_is); (case k8 => k_is); (case a9 => k_is); (case l9 => k_is); (case c9 => k_is); (case k9 => k_is); (case a10 => k_is); (case l10 => k_is); (case c10 => k_is); (case k10 => k_is); (case z_abs => k_is); (case z_bool => k_is); (case z_int => k_is); (case z_isinstance => k_is); (case z_len => k_is); (case z_list => k_is); (case z_max => k_is); (case z_min => k_is); (case z_range => k_is); (case z_set => k_is); (case z_sorted => k_is); (case z_str => k_is); (case z_tuple => k_is)

