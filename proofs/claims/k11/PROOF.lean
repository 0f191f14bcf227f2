import PyProof.Rows.All
import Wide.All
import OpenK.AllK
import Wide.FinOn
import HandS.ForMost
import HandS.Wide
import HandS.IsInst
import HandS.EndBits
import HandS.Style
import HandS.SortInts
import HandS.Evl
import HandS.TupMul
import HandS.Text
import HandS.FStr
import PySem.Challenge.RW_wholepages_k11_described
set_option Elab.async false
set_option linter.all false
set_option maxRecDepth 100000
set_option maxHeartbeats 4000000

/-! ## Common: steps of a reading, heaps, the law's own helpers -/
namespace Y
open PySem PySem.Spec PyProof.Rows L2
/-! ### steps -/
section
variable {K : PySem.W.Frag} {σ : L2.St} {H : Hp} {D : Ends} {ta tb te tc : TE} {t u : TS} {c d : TT} {Q : VK} {R : Bool → Hp → Prop}
theorem c_seq (h : t { D with nx := u D } σ H) : tSeq t u D σ H := h
theorem st_of {t : TS} {σ0 : L2.St} (e : σ0 = σ) (h : t D σ H) : t D σ0 H := by
  rw [e]
  exact h
theorem c_next (h : D.nx σ H) : tNext D σ H := h
theorem c_asg {g : TG} (h : te σ H fun x H1 => g x σ H1 D.nx) : tAsg te g D σ H := h
theorem c_gname {i : Nat} {v : V} {Q : L2.St → Hp → Prop} (h : Q (σ.set i (some v)) H) : gName i v σ H Q := h
theorem c_gsub {to ti : TE} {s : TSet} {v : V} {Q : L2.St → Hp → Prop} (h : to σ H fun o H1 => ti σ H1 fun i H2 => s o i v H2 fun H3 => Q σ H3) : gSub to ti s v σ H Q := h
theorem c_drop (h : te σ H fun _ H1 => D.nx σ H1) : tDrop te D σ H := h
theorem c_ret (h : te σ H D.rt) : tRet te D σ H := h
theorem c_retN (h : D.rt .non H) : tRetN D σ H := h
theorem c_ifs (h : c σ H fun b H1 => if b = true then t D σ H1 else u D σ H1) : tIfS c t u D σ H := h
theorem c_var {i : Nat} {v : V} (e : σ[i]? = some (some v)) (h : Q v H) : tVar i σ H Q := ⟨v, e, h⟩
theorem c_c {v : V} (h : Q v H) : tC v σ H Q := h
theorem c_op {r : R2} (h : ta σ H fun x H1 => tb σ H1 fun y H2 => r x y H2 Q) : tOp r ta tb σ H Q := h
theorem c_un {r : V → Hp → VK → Prop} (h : ta σ H fun x H1 => r x H1 Q) : tUn r ta σ H Q := h
theorem c_test (h : te σ H fun x H1 => ∃ k, x = .bl k ∧ R k H1) : tTest te σ H R := h
theorem c_B (h : te σ H fun x H1 => ∃ k, x = .bl k ∧ R k H1) : tB te σ H R := h
theorem c_bl {k : Bool} (h : R k H) : ∃ k', V.bl k = .bl k' ∧ R k' H := ⟨k, rfl, h⟩
theorem c_and (h : c σ H fun b H1 => if b = true then d σ H1 R else R false H1) : tAnd c d σ H R := h
theorem c_or (h : c σ H fun b H1 => if b = true then R true H1 else d σ H1 R) : tOr c d σ H R := h
theorem c_not (h : c σ H fun b H1 => R (!b) H1) : tNot c σ H R := h
theorem c_andV (h : ta σ H fun x H1 => ∃ b, x = .bl b ∧ if b = true then tb σ H1 Q else Q (.bl false) H1) : tAndV ta tb σ H Q := h
theorem c_orV (h : ta σ H fun x H1 => ∃ b, x = .bl b ∧ if b = true then Q (.bl true) H1 else tb σ H1 Q) : tOrV ta tb σ H Q := h
theorem c_notV (h : ta σ H fun x H1 => ∃ b, x = .bl b ∧ Q (.bl (!b)) H1) : tNotV ta σ H Q := h
theorem c_if (h : c σ H fun b H1 => if b = true then ta σ H1 Q else tb σ H1 Q) : tIf c ta tb σ H Q := h
theorem c_CB {r : List V → Hp → VK → Prop} {t : TA} (h : t σ H fun vs H1 => r vs H1 Q) : tCB r t σ H Q := h
theorem c_nil {Q : List V → Hp → Prop} (h : Q [] H) : tNil σ H Q := h
theorem c_cons {tr : TA} {Q : List V → Hp → Prop} (h : ta σ H fun x H1 => tr σ H1 fun xs H2 => Q (x :: xs) H2) : tCons ta tr σ H Q := h
theorem c_call {sp : Sp} {dvs : List V} {E : XK} {t : TA} (h : t σ H fun vs H1 => sp (vs ++ dvs) H1 Q E) : tCall sp dvs E t σ H Q := h
theorem c_lst {t : TA} (h : t σ H fun xs H1 => xs.length ≤ sizeLine ∧ ∀ p, H1 p = none → Q (.ref p) (upd H1 p (.lst xs))) : tLst t σ H Q := h
theorem c_tup {t : TA} (h : t σ H fun xs H1 => xs.length ≤ sizeLine ∧ ∀ p, H1 p = none → Q (.ref p) (upd H1 p (.tup xs))) : tTup t σ H Q := h
theorem c_BM {T : String} {r : V → List V → Hp → VK → Prop} {to : TE} {t : TA} (h : to σ H fun x H1 => tyV K T x H1 ∧ t σ H1 fun xs H2 => r x xs H2 Q) : tBM K T r to t σ H Q := h
theorem c_BM0 {T : String} {r : V → List V → Hp → VK → Prop} {to : TE} (h : to σ H fun x H1 => tyV K T x H1 ∧ r x [] H1 Q) : tBM0 K T r to σ H Q := h
theorem c_chain {r r' : R2} (h : ta σ H fun x H1 => tb σ H1 fun y H2 => r x y H2 fun z H3 => ∃ k, z = .bl k ∧ if k = true then tc σ H3 fun w H4 => r' y w H4 Q else Q (.bl false) H3) : tChain r r' ta tb tc σ H Q := h
theorem c_for {wi : TI} {g : TG} {D : Ends} {xs : List V} {a : Addr} (hx : SqL K H a xs)
    (h : ∃ W : Nat → Nat → L2.St → Hp → Prop, (∃ m, W 0 m σ H) ∧ ∀ i m σ H, W i m σ H →
      ((Itl K a).stop i H ∧ D.nx σ H) ∨ ((Itl K a).go i H ∧ ∃ N : L2.St → Hp → Prop, (∀ σ' H', N σ' H' → ∃ m', m' < m ∧ W (i + 1) m' σ' H') ∧ ∀ x H', (Itl K a).yld i H x H' → g x σ H' fun σ2 H2 => t { D with nx := N, ct := N, bk := D.nx } σ2 H2)) :
    ∃ a', V.ref a = .ref a' ∧ (∃ xs, SqL K H a' xs) ∧ ∃ W : Nat → Nat → L2.St → Hp → Prop, (∃ m, W 0 m σ H) ∧ ∀ i m σ H, W i m σ H →
      ((Itl K a').stop i H ∧ D.nx σ H) ∨ ((Itl K a').go i H ∧ ∃ N : L2.St → Hp → Prop, (∀ σ' H', N σ' H' → ∃ m', m' < m ∧ W (i + 1) m' σ' H') ∧ ∀ x H', (Itl K a').yld i H x H' → g x σ H' fun σ2 H2 => t { D with nx := N, ct := N, bk := D.nx } σ2 H2) := ⟨a, rfl, ⟨xs, hx⟩, h⟩
/-- for x in xs, by what holds ahead of each turn -/
theorem c_forL {tl : TE} {g : TG} (h : tl σ H fun x H1 => ∃ a xs, x = .ref a ∧ SqL K H1 a xs ∧ ∃ Pv : Nat → L2.St → Hp → Prop, Pv 0 σ H1 ∧ (∀ i σ H, i ≤ xs.length → Pv i σ H → SqL K H a xs) ∧
      (∀ i x σ H, xs[i]? = some x → Pv i σ H → g x σ H fun σ2 H2 => t { D with nx := Pv (i + 1), ct := Pv (i + 1), bk := D.nx } σ2 H2) ∧ (∀ σ H, Pv xs.length σ H → D.nx σ H))
    (mono : ∀ Q Q' : VK, (∀ v H, Q v H → Q' v H) → tl σ H Q → tl σ H Q') : tFor (iList K tl) g t D σ H := by
  refine mono _ _ (fun v H1 h => ?_) h
  obtain ⟨a, xs, rfl, hx, Pv, h0, hl, hs, hd⟩ := h
  exact ⟨a, rfl, ⟨xs, hx⟩, for_list (xs := xs) Pv h0 hl hs hd⟩
theorem c_rng1 {ta : TA} {g : TG} (h : ta σ H fun vs H1 => ∃ j : Int, vs = [.int j] ∧ -(2 ^ 62) ≤ j ∧ j < 2 ^ 62 ∧ ∃ W : Nat → Nat → L2.St → Hp → Prop, (∃ m, W 0 m σ H1) ∧ ∀ i m σ H, W i m σ H →
      ((Itr 0 j.toNat).stop i H ∧ D.nx σ H) ∨ ((Itr 0 j.toNat).go i H ∧ ∃ N : L2.St → Hp → Prop, (∀ σ' H', N σ' H' → ∃ m', m' < m ∧ W (i + 1) m' σ' H') ∧ ∀ x H', (Itr 0 j.toNat).yld i H x H' → g x σ H' fun σ2 H2 => t { D with nx := N, ct := N, bk := D.nx } σ2 H2)) :
    tFor (iRng1 ta) g t D σ H := h
theorem c_forList {tl : TE} {g : TG} (h : tl σ H fun x H1 => ∃ a, x = .ref a ∧ (∃ xs, SqL K H1 a xs) ∧ ∃ W : Nat → Nat → L2.St → Hp → Prop, (∃ m, W 0 m σ H1) ∧ ∀ i m σ H, W i m σ H →
      ((Itl K a).stop i H ∧ D.nx σ H) ∨ ((Itl K a).go i H ∧ ∃ N : L2.St → Hp → Prop, (∀ σ' H', N σ' H' → ∃ m', m' < m ∧ W (i + 1) m' σ' H') ∧ ∀ x H', (Itl K a).yld i H x H' → g x σ H' fun σ2 H2 => t { D with nx := N, ct := N, bk := D.nx } σ2 H2)) :
    tFor (iList K tl) g t D σ H := h
theorem c_forTup {tl : TE} {g : TG} (h : tl σ H fun x H1 => ∃ a, x = .ref a ∧ (∃ xs, SqT K H1 a xs) ∧ ∃ W : Nat → Nat → L2.St → Hp → Prop, (∃ m, W 0 m σ H1) ∧ ∀ i m σ H, W i m σ H →
      ((Itt K a).stop i H ∧ D.nx σ H) ∨ ((Itt K a).go i H ∧ ∃ N : L2.St → Hp → Prop, (∀ σ' H', N σ' H' → ∃ m', m' < m ∧ W (i + 1) m' σ' H') ∧ ∀ x H', (Itt K a).yld i H x H' → g x σ H' fun σ2 H2 => t { D with nx := N, ct := N, bk := D.nx } σ2 H2)) :
    tFor (iTup K tl) g t D σ H := h
/-! operators by values -/
theorem r_I0 {g : Int → Int → V} {i j : Int} (h : Q (g i j) H) : rI0 g (.int i) (.int j) H Q := ⟨i, j, rfl, rfl, h⟩
theorem r_I {C : Int → Int → Prop} {g : Int → Int → V} {i j : Int} (hc : C i j) (h : Q (g i j) H) : rI C g (.int i) (.int j) H Q := ⟨i, j, rfl, rfl, hc, h⟩
theorem r_U {g : Int → V} {i : Int} (h : Q (g i) H) : rU g (.int i) H Q := ⟨i, rfl, h⟩
theorem dec_int {i j : Int} : decide (V.int i = V.int j) = decide (i = j) := by
  by_cases h : i = j
  · rw [decide_eq_true h, h, decide_eq_true rfl]
  · rw [decide_eq_false h, decide_eq_false fun z => h (V.int.inj z)]
theorem dec_bl {i j : Bool} : decide (V.bl i = V.bl j) = decide (i = j) := by cases i <;> cases j <;> rfl
theorem dec_str {i j : Str} : decide (V.str i = V.str j) = decide (i = j) := by
  by_cases h : i = j
  · rw [decide_eq_true h, h, decide_eq_true rfl]
  · rw [decide_eq_false h, decide_eq_false fun z => h (V.str.inj z)]
theorem r_eqI {i j : Int} (h : Q (.bl (decide (i = j))) H) : rEq (.int i) (.int j) H Q := ⟨rfl, by rw [dec_int]; exact h⟩
theorem r_neI {i j : Int} (h : Q (.bl (!decide (i = j))) H) : rNe (.int i) (.int j) H Q := ⟨rfl, by rw [dec_int]; exact h⟩
theorem r_eqB {i j : Bool} (h : Q (.bl (decide (i = j))) H) : rEq (.bl i) (.bl j) H Q := ⟨rfl, by rw [dec_bl]; exact h⟩
theorem r_neB {i j : Bool} (h : Q (.bl (!decide (i = j))) H) : rNe (.bl i) (.bl j) H Q := ⟨rfl, by rw [dec_bl]; exact h⟩
theorem r_eqS {i j : Str} (h : Q (.bl (decide (i = j))) H) : rEq (.str i) (.str j) H Q := ⟨rfl, by rw [dec_str]; exact h⟩
theorem r_neS {i j : Str} (h : Q (.bl (!decide (i = j))) H) : rNe (.str i) (.str j) H Q := ⟨rfl, by rw [dec_str]; exact h⟩
theorem r_isN {x : V} (h : Q (.bl (decide (x = .non))) H) : (fun (x y : V) (H : Hp) (Q : VK) => y = .non ∧ Q (.bl (decide (x = .non))) H) x .non H Q := ⟨rfl, h⟩
theorem r_ixL {p : Addr} {xs : List V} {i : Int} {v : V} (hx : SqL K H p xs) (ha : atI xs i = some v) (h : Q v H) : rIxL K (.ref p) (.int i) H Q := ⟨p, xs, i, v, rfl, rfl, hx, ha, h⟩
theorem r_ixT {p : Addr} {xs : List V} {i : Int} {v : V} (hx : SqT K H p xs) (ha : atI xs i = some v) (h : Q v H) : rIxT K (.ref p) (.int i) H Q := ⟨p, xs, i, v, rfl, rfl, hx, ha, h⟩
theorem r_inL {n : Bool} {p : Addr} {x : V} {xs : List V} (hx : SqL K H p xs) (h1 : flatV x = true) (h2 : xs.all flatV = true) (h : Q (.bl (if n then !inV x xs else inV x xs)) H) : rIn K n x (.ref p) H Q := ⟨p, xs, rfl, .inl hx, h1, h2, h⟩
theorem r_inT {n : Bool} {p : Addr} {x : V} {xs : List V} (hx : SqT K H p xs) (h1 : flatV x = true) (h2 : xs.all flatV = true) (h : Q (.bl (if n then !inV x xs else inV x xs)) H) : rIn K n x (.ref p) H Q := ⟨p, xs, rfl, .inr hx, h1, h2, h⟩
theorem r_lenL {p : Addr} {xs : List V} (hx : SqL K H p xs) (h : Q (.int xs.length) H) : (fun (xs : List V) (H : Hp) (Q : VK) => ∃ p ys, xs = [.ref p] ∧ (SqL K H p ys ∨ SqT K H p ys) ∧ Q (.int ys.length) H) [.ref p] H Q := ⟨p, xs, rfl, .inl hx, h⟩
theorem r_lenT {p : Addr} {xs : List V} (hx : SqT K H p xs) (h : Q (.int xs.length) H) : (fun (xs : List V) (H : Hp) (Q : VK) => ∃ p ys, xs = [.ref p] ∧ (SqL K H p ys ∨ SqT K H p ys) ∧ Q (.int ys.length) H) [.ref p] H Q := ⟨p, xs, rfl, .inr hx, h⟩
theorem r_app {p : Addr} {xs : List V} {y : V} (hx : H p = some (.lst xs)) (hl : xs.length < sizeLine) (h : Q .non (upd H p (.lst (xs ++ [y])))) : rAppend (.ref p) [y] H Q := ⟨p, xs, y, rfl, rfl, hx, hl, h⟩
theorem r_pop {p : Addr} {xs : List V} {y : V} (hx : H p = some (.lst (xs ++ [y]))) (h : Q y (upd H p (.lst xs))) : rPop (.ref p) [] H Q :=
  ⟨p, xs ++ [y], y, rfl, rfl, hx, by simp, by rw [List.dropLast_concat]; exact h⟩
theorem r_setL {p : Addr} {xs : List V} {i : Int} {j : Nat} {v : V} {Q : Hp → Prop} (hx : H p = some (.lst xs)) (hj : ixN xs.length i = some j) (h : Q (upd H p (.lst (xs.set j v)))) : rSetL (.ref p) (.int i) v H Q := ⟨p, xs, i, j, rfl, rfl, hx, hj, h⟩
theorem r_pow18 {H : Hp} {Q : VK} (h : Q (.int 1000000000000000000) H) : rI CPow (fun i j => .int (i ^ j.toNat)) (.int 10) (.int 18) H Q := r_I ⟨by decide, by decide, by decide⟩ h
theorem r_pow17 {H : Hp} {Q : VK} (h : Q (.int 100000000000000000) H) : rI CPow (fun i j => .int (i ^ j.toNat)) (.int 10) (.int 17) H Q := r_I ⟨by decide, by decide, by decide⟩ h
theorem ixn {n j : Nat} (h : j < n) : ixN n (j : Int) = some j := by
  unfold ixN
  rw [if_pos (by omega), if_pos (by omega)]
  rfl
theorem map_at {ns : List Int} {i : Nat} (h : i < ns.length) : (ns.map V.int)[i]? = some (.int ns[i]) := by
  rw [List.getElem?_map, List.getElem?_eq_getElem h]
  rfl
theorem r_tyL {p : Addr} {xs : List V} (hx : SqL K H p xs) {B : Prop} (h : B) : tyV K "list" (.ref p) H ∧ B := ⟨.inl ⟨rfl, _, hx⟩, h⟩
end
/-! ### tests -/
theorem i_T {b : Bool} {A B : Prop} (hb : b = true) (h : A) : if b = true then A else B := by
  rw [if_pos hb]
  exact h
theorem i_F {b : Bool} {A B : Prop} (hb : b = false) (h : B) : if b = true then A else B := by
  rw [hb, if_neg Bool.false_ne_true]
  exact h
theorem i_2 {b : Bool} {A B : Prop} (h1 : b = true → A) (h2 : b = false → B) : if b = true then A else B := by
  cases b with
  | true => exact i_T rfl (h1 rfl)
  | false => exact i_F rfl (h2 rfl)
theorem i_d {p : Prop} [Decidable p] {A B : Prop} (h1 : p → A) (h2 : ¬ p → B) : if decide p = true then A else B := by
  by_cases h : p
  · exact i_T (decide_eq_true h) (h1 h)
  · exact i_F (decide_eq_false h) (h2 h)
theorem i_n {p : Prop} [Decidable p] {A B : Prop} (h1 : ¬ p → A) (h2 : p → B) : if (!decide p) = true then A else B := by
  by_cases h : p
  · exact i_F (by rw [decide_eq_true h]; rfl) (h2 h)
  · exact i_T (by rw [decide_eq_false h]; rfl) (h1 h)
theorem small {n : Nat} (h : n ≤ 100000) : n ≤ sizeLine := Nat.le_trans h (by decide)
theorem smallLt {n : Nat} (h : n < 100000) : n < sizeLine := Nat.lt_of_lt_of_le h (by decide)
/-! ### heaps: what stays but at S -/
def Ex (S : Addr) (H H' : Hp) : Prop := ∀ a o, a ≠ S → H a = some o → H' a = some o
theorem Ex.refl (S : Addr) (H : Hp) : Ex S H H := fun _ _ _ h => h
theorem Ex.trans {S : Addr} {H H1 H2 : Hp} (a : Ex S H H1) (b : Ex S H1 H2) : Ex S H H2 := fun x o n h => b x o n (a x o n h)
theorem Ex.new {S : Addr} {H H1 : Hp} {p : Addr} {o : HO} (e : Ex S H H1) (h : H1 p = none) : Ex S H (upd H1 p o) := fun a u n ha => by
  rw [upd_ne (ne_of_none (e a u n ha) h)]
  exact e a u n ha
theorem Ex.mut {S : Addr} {H H1 : Hp} {p : Addr} {o : HO} (e : Ex S H H1) (h : H p = none) : Ex S H (upd H1 p o) := fun a u n ha => by
  rw [upd_ne (ne_of_none ha h)]
  exact e a u n ha
theorem Ex.at {S : Addr} {H H1 : Hp} {o : HO} (e : Ex S H H1) : Ex S H (upd H1 S o) := fun a u n ha => by
  rw [upd_ne n]
  exact e a u n ha
theorem Ex.same {S : Addr} {H H1 H2 : Hp} (e : Ex S H H1) (s : Same H1 H2) : Ex S H H2 := fun a u n ha => s a u (e a u n ha)
theorem same_new {H H1 : Hp} {p : Addr} {o : HO} (e : Same H H1) (h : H1 p = none) : Same H (upd H1 p o) := fun a u ha => by
  rw [upd_ne (ne_of_none (e a u ha) h)]
  exact e a u ha
theorem same_mut {H H1 : Hp} {p : Addr} {o : HO} (e : Same H H1) (h : H p = none) : Same H (upd H1 p o) := fun a u ha => by
  rw [upd_ne (ne_of_none ha h)]
  exact e a u ha
theorem same_tup {K : PySem.W.Frag} {H H' : Hp} {a : Addr} {xs : List V} (e : Same H H') (h : SqT K H a xs) : SqT K H' a xs := by
  rcases h with (h | ⟨o, h⟩) | h
  · exact .inl (.inl (e _ _ h))
  · exact .inl (.inr ⟨o, e _ _ h⟩)
  · exact .inr h
theorem Ex.seq {K : PySem.W.Frag} {S : Addr} {H H' : Hp} {a : Addr} {xs : List V} (e : Ex S H H') (n : a ≠ S) (h : SqL K H a xs) : SqL K H' a xs := by
  rcases h with (h | ⟨o, h⟩) | h
  · exact .inl (.inl (e _ _ n h))
  · exact .inl (.inr ⟨o, e _ _ n h⟩)
  · exact .inr h
theorem Ex.tup {K : PySem.W.Frag} {S : Addr} {H H' : Hp} {a : Addr} {xs : List V} (e : Ex S H H') (n : a ≠ S) (h : SqT K H a xs) : SqT K H' a xs := by
  rcases h with (h | ⟨o, h⟩) | h
  · exact .inl (.inl (e _ _ n h))
  · exact .inl (.inr ⟨o, e _ _ n h⟩)
  · exact .inr h
theorem sql {K : PySem.W.Frag} {H : Hp} {a : Addr} {xs : List V} (h : H a = some (.lst xs)) : SqL K H a xs := .inl (.inl h)
theorem sqt {K : PySem.W.Frag} {H : Hp} {a : Addr} {xs : List V} (h : H a = some (.tup xs)) : SqT K H a xs := .inl (.inl h)

theorem seq' {K : PySem.W.Frag} {H H' : Hp} {a : Addr} {xs : List V} (h : SqL K H a xs) (e : Same H H') : SqL K H' a xs := e.seq h
theorem tup' {K : PySem.W.Frag} {H H' : Hp} {a : Addr} {xs : List V} (h : SqT K H a xs) (e : Same H H') : SqT K H' a xs := same_tup e h
theorem same_at {H H' : Hp} {a : Addr} {o : HO} (e : Same H H') (h : H a = some o) : H' a = some o := e _ _ h
theorem ex_at {S : Addr} {H H' : Hp} {a : Addr} {o : HO} (e : Ex S H H') (n : a ≠ S) (h : H a = some o) : H' a = some o := e _ _ n h
theorem ne_nn {H : Hp} {a b : Addr} {o : HO} (h' : H b = none) (h : H a = some o) : a ≠ b := ne_of_none h h'
theorem ne_nn' {H : Hp} {a b : Addr} {o : HO} (h' : H b = none) (h : H a = some o) : b ≠ a := (ne_of_none h h').symm
section
variable {K : PySem.W.Frag} {σ : L2.St} {H : Hp} {tb te : TE} {c : TT} {Q : VK} {g : TG} {vs : List Nat}
theorem c_lcT (h : te σ H fun x H1 => ∃ a, x = .ref a ∧ (∃ xs, SqT K H1 a xs) ∧ ∀ D, H1 D = none → ∃ W : Nat → Nat → Hp → Prop, (∃ m, W 0 m (upd H1 D (.lst []))) ∧ ∀ i m G, W i m G →
      ((Itt K a).stop i G ∧ Q (.ref D) G) ∨ ((Itt K a).go i G ∧ ∃ Nx : Hp → Prop, (∀ G', Nx G' → ∃ m', m' < m ∧ W (i + 1) m' G') ∧ ∀ x G', (Itt K a).yld i G x G' → g x (wipe σ vs) G' fun σ2 H2 => wipe σ2 vs = wipe σ vs ∧ c σ2 H2 fun b H3 =>
        if b = true then tb σ2 H3 fun y H4 => ∃ acc, H4 D = some (.lst acc) ∧ acc.length < sizeLine ∧ Nx (upd H4 D (.lst (acc ++ [y]))) else Nx H3)) : tLc (iTup K te) g c tb vs σ H Q := h
theorem c_lcL (h : te σ H fun x H1 => ∃ a, x = .ref a ∧ (∃ xs, SqL K H1 a xs) ∧ ∀ D, H1 D = none → ∃ W : Nat → Nat → Hp → Prop, (∃ m, W 0 m (upd H1 D (.lst []))) ∧ ∀ i m G, W i m G →
      ((Itl K a).stop i G ∧ Q (.ref D) G) ∨ ((Itl K a).go i G ∧ ∃ Nx : Hp → Prop, (∀ G', Nx G' → ∃ m', m' < m ∧ W (i + 1) m' G') ∧ ∀ x G', (Itl K a).yld i G x G' → g x (wipe σ vs) G' fun σ2 H2 => wipe σ2 vs = wipe σ vs ∧ c σ2 H2 fun b H3 =>
        if b = true then tb σ2 H3 fun y H4 => ∃ acc, H4 D = some (.lst acc) ∧ acc.length < sizeLine ∧ Nx (upd H4 D (.lst (acc ++ [y]))) else Nx H3)) : tLc (iList K te) g c tb vs σ H Q := h
theorem c_lcR {ta : TA} (h : ta σ H fun us H1 => ∃ j : Int, us = [.int j] ∧ -(2 ^ 62) ≤ j ∧ j < 2 ^ 62 ∧ ∀ D, H1 D = none → ∃ W : Nat → Nat → Hp → Prop, (∃ m, W 0 m (upd H1 D (.lst []))) ∧ ∀ i m G, W i m G →
      ((Itr 0 j.toNat).stop i G ∧ Q (.ref D) G) ∨ ((Itr 0 j.toNat).go i G ∧ ∃ Nx : Hp → Prop, (∀ G', Nx G' → ∃ m', m' < m ∧ W (i + 1) m' G') ∧ ∀ x G', (Itr 0 j.toNat).yld i G x G' → g x (wipe σ vs) G' fun σ2 H2 => wipe σ2 vs = wipe σ vs ∧ c σ2 H2 fun b H3 =>
        if b = true then tb σ2 H3 fun y H4 => ∃ acc, H4 D = some (.lst acc) ∧ acc.length < sizeLine ∧ Nx (upd H4 D (.lst (acc ++ [y]))) else Nx H3)) : tLc (iRng1 ta) g c tb vs σ H Q := h
theorem c_yes {R : Bool → Hp → Prop} (h : R true H) : tYes σ H R := h
theorem in_bl (b : Bool) : ∀ bs : List Bool, inV (.bl b) (bs.map V.bl) = bs.contains b
  | [] => rfl
  | x :: r => by
    have ih := in_bl b r
    unfold inV at ih ⊢
    rw [List.map_cons, List.any_cons, ih, List.contains_cons]
    congr 1
    cases b <;> cases x <;> rfl
theorem flat_bl : ∀ bs : List Bool, (bs.map V.bl).all flatV = true
  | [] => rfl
  | x :: r => by
    rw [List.map_cons, List.all_cons, flat_bl r]
    rfl
end
/-! x is True, x is False where x may be None -/
def rIsW : R2 := fun x y H Q => ∃ b : Bool, y = .bl b ∧ (x = .non ∨ ∃ a, x = .bl a) ∧ Q (.bl (decide (x = .bl b))) H
def rNotW : R2 := fun x y H Q => ∃ b : Bool, y = .bl b ∧ (x = .non ∨ ∃ a, x = .bl a) ∧ Q (.bl (!decide (x = .bl b))) H
theorem op_isW {X : Cx} : OpR X (compareOp .Is) rIsW := by
  intro pins s σ H x y v u Q I rx ry h
  obtain ⟨b, rfl, hx, q⟩ := h
  cases (show u = Value.bool b from ry)
  rcases hx with rfl | ⟨a, rfl⟩
  · cases (show v = Value.none from rx)
    exact wpAny_is_other rfl (fun z => nomatch z) ⟨.bl false, H, I, rfl, by simpa using q⟩
  · cases (show v = Value.bool a from rx)
    by_cases e : a = b
    · subst e
      exact wpAny_is_self rfl ⟨.bl true, H, I, rfl, by simpa using q⟩
    · exact wpAny_is_other rfl (fun z => e (Value.bool.inj z)) ⟨.bl false, H, I, rfl, by simpa [e] using q⟩
theorem op_notW {X : Cx} : OpR X (compareOp .IsNot) rNotW := by
  intro pins s σ H x y v u Q I rx ry h
  obtain ⟨b, rfl, hx, q⟩ := h
  cases (show u = Value.bool b from ry)
  rcases hx with rfl | ⟨a, rfl⟩
  · cases (show v = Value.none from rx)
    exact wpAny_isNot_other rfl (fun z => nomatch z) ⟨.bl true, H, I, rfl, by simpa using q⟩
  · cases (show v = Value.bool a from rx)
    by_cases e : a = b
    · subst e
      exact wpAny_isNot_self rfl ⟨.bl false, H, I, rfl, by simpa using q⟩
    · exact wpAny_isNot_other rfl (fun z => e (Value.bool.inj z)) ⟨.bl true, H, I, rfl, by simpa [e] using q⟩
theorem r_isW {x : V} {b : Bool} {H : Hp} {Q : VK} (hx : x = .non ∨ ∃ a, x = .bl a) (q : Q (.bl (decide (x = .bl b))) H) : rIsW x (.bl b) H Q := ⟨b, rfl, hx, q⟩
theorem r_notW {x : V} {b : Bool} {H : Hp} {Q : VK} (hx : x = .non ∨ ∃ a, x = .bl a) (q : Q (.bl (!decide (x = .bl b))) H) : rNotW x (.bl b) H Q := ⟨b, rfl, hx, q⟩

/-! ### more steps: slices, truths that may be None, what is no list stays -/
section
variable {K : PySem.W.Frag} {σ : L2.St} {H : Hp} {ta te : TE} {Q : VK}
theorem c_sl {r : V → Option Int → Option Int → Hp → VK → Prop} {tl th : TO} (h : te σ H fun x H1 => tl σ H1 fun l H2 => th σ H2 fun u H3 => r x l u H3 Q) : tSl r te tl th σ H Q := h
theorem c_noPart {Q : Option Int → Hp → Prop} (h : Q none H) : tNoPart σ H Q := h
theorem c_part {Q : Option Int → Hp → Prop} (h : te σ H fun x H1 => ∃ i, x = .int i ∧ Q (some i) H1) : tPart te σ H Q := h
theorem r_slL {p : Addr} {xs : List V} {lo hi : Option Int} (hx : SqL K H p xs) (h : ∀ q, H q = none → Q (.ref q) (upd H q (.lst (cutV xs lo hi)))) : rSlL K (.ref p) lo hi H Q := ⟨p, xs, rfl, hx, h⟩
theorem r_slT {p : Addr} {xs : List V} {lo hi : Option Int} (hx : SqT K H p xs) (hn : ¬ (HT.sIx xs.length 0 lo = 0 ∧ HT.sIx xs.length xs.length hi = xs.length)) (h : ∀ q, H q = none → Q (.ref q) (upd H q (.tup (cutV xs lo hi)))) : rSlT K (.ref p) lo hi H Q := ⟨p, xs, rfl, hx, hn, h⟩
theorem r_cat {p q : Addr} {xs ys : List V} (hx : H p = some (.lst xs)) (hy : H q = some (.lst ys)) (hl : xs.length + ys.length ≤ sizeLine) (h : ∀ r, H r = none → Q (.ref r) (upd H r (.lst (xs ++ ys)))) : rCat (.ref p) (.ref q) H Q := ⟨p, q, xs, ys, rfl, rfl, hx, hy, hl, h⟩
theorem r_catT {p q : Addr} {xs ys : List V} (hx : SqT K H p xs) (hy : SqT K H q ys) (hn : xs ≠ []) (hl : xs.length + ys.length ≤ sizeLine) (h1 : ys = [] → Q (.ref p) H) (h2 : ys ≠ [] → ∀ r, H r = none → Q (.ref r) (upd H r (.tup (xs ++ ys)))) : rCatT K (.ref p) (.ref q) H Q := ⟨p, q, xs, ys, rfl, rfl, hx, hy, hn, hl, h1, h2⟩
end
/-- a truth: None, or a bool -/
def tb : Option Bool → V
  | none => .non
  | some b => .bl b
theorem in_tb (x : Option Bool) : ∀ bs : List (Option Bool), inV (tb x) (bs.map tb) = bs.contains x
  | [] => rfl
  | y :: r => by
    have ih := in_tb x r
    unfold inV at ih ⊢
    rw [List.map_cons, List.any_cons, ih, List.contains_cons]
    congr 1
    rcases x with _ | x <;> rcases y with _ | y <;> first | rfl | (cases x <;> rfl) | (cases y <;> rfl) | (cases x <;> cases y <;> rfl)
theorem flat_tb : ∀ bs : List (Option Bool), (bs.map tb).all flatV = true
  | [] => rfl
  | x :: r => by
    rw [List.map_cons, List.all_cons, flat_tb r]
    cases x <;> rfl
theorem tb_or (x : Option Bool) : tb x = .non ∨ ∃ a, tb x = .bl a := by
  cases x with
  | none => exact .inl rfl
  | some b => exact .inr ⟨b, rfl⟩
theorem tb_true (x : Option Bool) : decide (tb x = .bl true) = decide (x = some true) := by
  rcases x with _ | x
  · simp [tb]
  · cases x <;> simp [tb]
/-- what is no list stays -/
def Tp (H H' : Hp) : Prop := ∀ a o, H a = some o → (∀ ys, o ≠ .lst ys) → H' a = some o
theorem Tp.refl (H : Hp) : Tp H H := fun _ _ h _ => h
theorem Tp.trans {H H1 H2 : Hp} (a : Tp H H1) (b : Tp H1 H2) : Tp H H2 := fun x o h n => b x o (a x o h n) n
theorem Tp.same {H H1 : Hp} (s : Same H H1) : Tp H H1 := fun x o h _ => s x o h
theorem Tp.ex {S : Addr} {H H1 : Hp} {xs : List V} (e : Ex S H H1) (h : H S = some (.lst xs)) : Tp H H1 := fun x o hx n => e x o (fun z => by
  subst z
  rw [h] at hx
  exact n _ (Option.some.inj hx).symm) hx
theorem Tp.lst {H H1 : Hp} {p : Addr} {xs : List V} {o : HO} (e : Tp H H1) (h : H1 p = some (.lst xs)) : Tp H (upd H1 p o) := fun x u hx n => by
  have h2 := e x u hx n
  by_cases z : x = p
  · subst z
    rw [h] at h2
    exact absurd (Option.some.inj h2).symm (n _)
  · rw [upd_ne z]
    exact h2
theorem Tp.new {H H1 : Hp} {p : Addr} {o : HO} (e : Tp H H1) (h : H1 p = none) : Tp H (upd H1 p o) := fun x u hx n => by
  have h2 := e x u hx n
  rw [upd_ne (ne_of_none h2 h)]
  exact h2
theorem Tp.tup {K : PySem.W.Frag} {H H' : Hp} {a : Addr} {xs : List V} (e : Tp H H') (h : SqT K H a xs) : SqT K H' a xs := by
  rcases h with (h | ⟨o, h⟩) | h
  · exact .inl (.inl (e _ _ h (fun _ z => nomatch z)))
  · exact .inl (.inr ⟨o, e _ _ h (fun _ z => nomatch z)⟩)
  · exact .inr h
theorem Ex.free {S : Addr} {H H' : Hp} {q : Addr} (e : Ex S H H') (n : q ≠ S) (h : H' q = none) : H q = none := by
  cases z : H q with
  | none => rfl
  | some o =>
    have := e _ _ n z
    rw [h] at this
    cases this
/-! a test's outcome said by itself -/
def tMid (t : TT) : TT := fun σ H R => ∃ M : Bool → Hp → Prop, t σ H M ∧ ∀ b H', M b H' → R b H'
theorem pt_mid {X : Cx} {e : Expr} {t : TT} (h : PT X e t) : PT X e (tMid t) := ⟨fun pins s σ H Q I ⟨M, hm, k⟩ => thn (h.run pins s σ H M I hm) fun b s' ⟨H', I', q⟩ => ⟨H', I', k b H' q⟩⟩
theorem c_mid {t : TT} {σ : L2.St} {H : Hp} {R : Bool → Hp → Prop} (p : Prop) [Decidable p] (h : t σ H fun b H' => H' = H ∧ b = decide p) (h1 : p → R true H) (h2 : ¬ p → R false H) : tMid t σ H R :=
  ⟨_, h, fun b H' ⟨e1, e2⟩ => by
    subst e1 e2
    by_cases z : p
    · rw [decide_eq_true z]
      exact h1 z
    · rw [decide_eq_false z]
      exact h2 z⟩
theorem cut_to {xs ys : List V} {r : Int} (h : r = (xs.length : Int)) : cutV (xs ++ ys) none (some r) = xs := by
  subst h
  unfold cutV
  rw [HT.sIx_none, HT.sIx_nat, List.length_append, List.drop_zero, Nat.min_eq_left (by omega), Nat.sub_zero, List.take_left']
  rfl
theorem cut_from {xs ys : List V} {r : Int} (h : r = (xs.length : Int)) : cutV (xs ++ ys) (some r) none = ys := by
  subst h
  unfold cutV
  rw [HT.sIx_none, HT.sIx_nat, List.length_append, Nat.min_eq_left (by omega), List.drop_left', List.take_of_length_le (by omega)]
  rfl
theorem new_at {H H' : Hp} {p : Addr} {o : HO} (h : H p = none) (s : Same (upd H p o) H') : H' p = some o := s _ _ upd_same
theorem old_at {H H' : Hp} {p : Addr} {o : HO} (h : H p = some o) (s : Same H H') : H' p = some o := s _ _ h

/-! ### t * k, also by 1 (then t itself) -/
theorem mul_one (l : Addr) (its : Array Value) (n : Nat) (dd : Option Addr) (sl : Array (Option Value)) (u : Tok) :
    Meets (Builtin.«tuple.__mul__» ⟨[.ref l, .int 1 u], []⟩) (fun _ R s => s.heap.get? l = some { cls := .type "tuple", dict := dd, data := .seq its n, slots := sl } ∧ R (.ok (.ret (Value.ref l))) s) :=
  .of_wp fun prog w A R s h => by
    obtain ⟨hp, g, d, tk, os⟩ := s
    obtain ⟨there, h⟩ := h
    have f1 := AutoSeq1.idx_int
    wp_walk using wpAny_loadPart' there
    exact ⟨_, rfl, h⟩
def rRepTA (K : PySem.W.Frag) : R2 := fun x y H Q => ∃ (l : Addr) (k : Int) (xs : List V), x = .ref l ∧ y = .int k ∧ SqT K H l xs ∧ xs ≠ [] ∧ 1 ≤ k ∧ k ≤ 1000 ∧ xs.length ≤ 1000 ∧ (k = 1 → Q (.ref l) H) ∧ (2 ≤ k → ∀ p, H p = none → Q (.ref p) (upd H p (.tup (List.replicate k.toNat xs).flatten)))
theorem op_repTA {X : Cx} : OpR X (binaryOp .Mult) (rRepTA X.K) := by
  intro pins s σ H x y v u Q I rx ry h
  obtain ⟨l, k, xs, rfl, rfl, there, hne, k1, k2, hz, q1, q2⟩ := h
  by_cases one : k = 1
  · subst one
    cases rx
    obtain ⟨tk, rfl⟩ := ry
    obtain ⟨items, vals, ⟨⟨cl, dd, body, slots⟩, got, isT, num, isS⟩, few⟩ := I.tuple there
    dsimp only at isT isS
    subst isT isS
    have tT : s.TypeIs (.ref l) "tuple" := ⟨_, got, rfl⟩
    have tI := typeIs_int s 1 tk
    have left := int_rmul_tuple 1 tk l items.toArray num dd slots
    have right := call_meets (prog := X.prog) (w := X.w) (A := X.A) (E := X.xe) (Q := EP X pins σ Q) PySem.F.slot_tuple_mul tT PySem.F.entry_tuple_mul (PySem.F.args_tuple_mul_2 _ _) (mul_one l items.toArray num dd slots tk) ⟨got, ⟨.ref l, H, I, rfl, q1 rfl⟩⟩
    refine wpAny_binaryOp_repeat_ref (U := "int") (T := "tuple") (by decide) tT (fun z => typeIs_int z 1 tk) noFill_tuple_mul PySem.F.fills_int_mul PySem.F.slot_int_rmul repeat_tuple PySem.F.slot_int_index.lookup ?_
    exact call_meets PySem.F.slot_int_rmul tI PySem.F.entry_int_rmul (PySem.F.args_int_rmul_2 _ _) left ⟨got, rfl, tT, right⟩
  · exact op_repT pins s σ H _ _ v u Q I rx ry ⟨l, k, xs, rfl, rfl, there, hne, by omega, k2, hz, q2 (by omega)⟩

def RowOk (us : List V) : Prop := ∀ v ∈ us, v = .non ∨ ∃ i : Int, v = .int i ∧ -(10 ^ 18) ≤ i ∧ i ≤ 10 ^ 18
/-! ### predicates as trees, and the law's steps that build them -/
def cmpI (s : Str) (i n : Int) : Bool := if s = "<" then decide (i < n) else if s = "<=" then decide (i ≤ n) else if s = "=" then decide (i = n) else if s = "!=" then !decide (i = n) else if s = ">=" then decide (n ≤ i) else decide (n < i)
def cmpO (s : Str) (v : V) (n : Int) : Option Bool := match v with
  | .int i => some (cmpI s i n)
  | _ => none
def signs : List Str := ["<", "<=", "=", "!=", ">=", ">"]
def VNI (v : V) : Prop := v = .non ∨ ∃ i : Int, v = .int i
theorem row_vni {us : List V} (h : RowOk us) {v : V} (hv : v ∈ us) : VNI v := by
  rcases h v hv with e | ⟨i, e, _⟩
  · exact .inl e
  · exact .inr ⟨i, e⟩
theorem sign_in {s : Str} (h : s ∈ signs) : inV (.str s) [.str "<", .str "<=", .str "=", .str "!=", .str ">=", .str ">"] = true := by
  simp only [signs, List.mem_cons, List.not_mem_nil, or_false] at h
  rcases h with rfl | rfl | rfl | rfl | rfl | rfl <;> decide +kernel
theorem sign_ne {s x : Str} (h : s ∈ signs) (hx : x ∉ signs) : s ≠ x := fun e => hx (e ▸ h)
inductive Tr where
  | cmp (s : Str) (c : Nat) (n : Int)
  | mis (c : Nat)
  | neg (t : Tr)
  | unt (t : Tr)
  | jn (e : Bool) (ts : List Tr)
inductive Stp where
  | cmp (s : Str) (c : Nat) (n : Int)
  | mis (c : Nat)
  | neg
  | unt
  | jn (e : Bool) (k : Nat)
def jw (e : Bool) : Str := if e then "either" else "both"
def Stp.vals : Stp → List V
  | .cmp s c n => [.str s, .int (c : Int), .int n]
  | .mis c => [.str "missing", .int (c : Int)]
  | .neg => [.str "negation"]
  | .unt => [.str "untrue"]
  | .jn e k => [.str (jw e), .int (k : Int)]
def Stp.need : Stp → Nat
  | .neg => 1
  | .unt => 1
  | .jn _ k => k
  | _ => 0
def Stp.ok (w : Nat) : Stp → Prop
  | .cmp s c n => s ∈ signs ∧ c < w ∧ -(10 ^ 18) < n ∧ n < 10 ^ 18
  | .mis c => c < w
  | _ => True
def ex1 (ts : List Tr) : Stp → List Tr
  | .cmp s c n => ts ++ [.cmp s c n]
  | .mis c => ts ++ [.mis c]
  | .neg => ts.dropLast ++ [.neg (ts.getLastD (.mis 0))]
  | .unt => ts.dropLast ++ [.unt (ts.getLastD (.mis 0))]
  | .jn e k => ts.take (ts.length - k) ++ [.jn e (ts.drop (ts.length - k))]
def exs (ss : List Stp) : List Tr := ss.foldl ex1 []
theorem exs_snoc (ss : List Stp) (s : Stp) : exs (ss ++ [s]) = ex1 (exs ss) s := by
  unfold exs
  rw [List.foldl_append]
  rfl
theorem exs_take {ss : List Stp} {i : Nat} {s : Stp} (h : ss[i]? = some s) : exs (ss.take (i + 1)) = ex1 (exs (ss.take i)) s := by
  rw [List.take_add_one, h]
  exact exs_snoc _ _
theorem ex1_neg (us : List Tr) (t : Tr) : ex1 (us ++ [t]) .neg = us ++ [.neg t] := by simp [ex1]
theorem ex1_unt (us : List Tr) (t : Tr) : ex1 (us ++ [t]) .unt = us ++ [.unt t] := by simp [ex1]
theorem ex1_jn (us ws : List Tr) (e : Bool) : ex1 (us ++ ws) (.jn e ws.length) = us ++ [.jn e ws] := by simp [ex1]
theorem snocT {ts : List Tr} (h : 1 ≤ ts.length) : ∃ us t, ts = us ++ [t] := by
  rcases List.eq_nil_or_concat ts with e | ⟨r, v, e⟩
  · subst e
    simp at h
  · exact ⟨r, v, by simpa using e⟩
theorem splitT {ts : List Tr} {k : Nat} (h : k ≤ ts.length) : ∃ us ws, ts = us ++ ws ∧ ws.length = k :=
  ⟨ts.take (ts.length - k), ts.drop (ts.length - k), (List.take_append_drop _ _).symm, by rw [List.length_drop]; omega⟩
/-- every step finds enough on the stack -/
def Valid (ss : List Stp) : Prop := ∀ (i : Nat) (s : Stp), ss[i]? = some s → s.need ≤ (exs (ss.take i)).length
theorem Valid.nil : Valid [] := fun i s h => by simp at h
theorem Valid.snoc {ss : List Stp} {s : Stp} (v : Valid ss) (h : s.need ≤ (exs ss).length) : Valid (ss ++ [s]) := fun i x hx => by
  by_cases hi : i < ss.length
  · rw [List.getElem?_append_left hi] at hx
    rw [List.take_append_of_le_length (Nat.le_of_lt hi)]
    exact v i x hx
  · have hi2 : i = ss.length := by
      have := (List.getElem?_eq_some_iff.mp hx).1
      simp at this
      omega
    subst hi2
    rw [List.getElem?_append_right (Nat.le_refl _), Nat.sub_self] at hx
    simp at hx
    subst hx
    rw [List.take_append_of_le_length (Nat.le_refl _), List.take_length]
    exact h
structure Stps (w : Nat) (H : Hp) (xs : List V) (ss : List Stp) : Prop where
  len : xs.length = ss.length
  at_ : ∀ (i : Nat) (s : Stp), ss[i]? = some s → ∃ a : Addr, xs[i]? = some (V.ref a) ∧ H a = some (.tup (Stp.vals s))
  ok : ∀ s ∈ ss, s.ok w
theorem Stps.keep {w : Nat} {H H' : Hp} {xs : List V} {ss : List Stp} (h : Stps w H xs ss) (e : Tp H H') : Stps w H' xs ss :=
  ⟨h.len, fun i s hi => let ⟨a, x, y⟩ := h.at_ i s hi; ⟨a, x, e _ _ y (fun _ z => nomatch z)⟩, h.ok⟩
theorem Stps.nil {w : Nat} {H : Hp} : Stps w H [] [] := ⟨rfl, fun i s h => by simp at h, fun s h => nomatch h⟩
theorem Stps.snoc {w : Nat} {H : Hp} {xs : List V} {ss : List Stp} {a : Addr} {s : Stp} (h : Stps w H xs ss) (ha : H a = some (.tup s.vals)) (hs : s.ok w) : Stps w H (xs ++ [.ref a]) (ss ++ [s]) :=
  ⟨by simp [h.len], fun i x hx => by
    by_cases hi : i < ss.length
    · rw [List.getElem?_append_left hi] at hx
      rw [List.getElem?_append_left (by rw [h.len]; exact hi)]
      exact h.at_ i x hx
    · have hi2 : i = ss.length := by
        have := (List.getElem?_eq_some_iff.mp hx).1
        simp at this
        omega
      subst hi2
      rw [List.getElem?_append_right (Nat.le_refl _), Nat.sub_self] at hx
      rw [List.getElem?_append_right (by rw [h.len]; exact Nat.le_refl _), h.len, Nat.sub_self]
      simp at hx
      subst hx
      exact ⟨a, rfl, ha⟩, fun x hx => by
    rcases List.mem_append.mp hx with hx | hx
    · exact h.ok x hx
    · rw [List.mem_singleton] at hx
      subst hx
      exact hs⟩
theorem Stps.get {w : Nat} {H : Hp} {xs : List V} {ss : List Stp} (h : Stps w H xs ss) {i : Nat} {x : V} (hx : xs[i]? = some x) : ∃ s a, ss[i]? = some s ∧ x = V.ref a ∧ H a = some (.tup s.vals) ∧ s.ok w := by
  have hi : i < ss.length := by
    have := (List.getElem?_eq_some_iff.mp hx).1
    rw [h.len] at this
    exact this
  obtain ⟨a, h1, h2⟩ := h.at_ i _ (List.getElem?_eq_getElem hi)
  rw [hx] at h1
  exact ⟨ss[i], a, List.getElem?_eq_getElem hi, Option.some.inj h1, h2, h.ok _ (List.getElem_mem hi)⟩
mutual
/-- in H the value is the tree; it has at most so many nodes -/
inductive PTr (K : PySem.W.Frag) (w : Nat) (H : Hp) : V → Tr → Nat → Prop where
  | cmp {a : Addr} {s : Str} {c : Nat} {n : Int} (hs : s ∈ signs) (hc : c < w) (h0 : -(10 ^ 18) < n) (h1 : n < 10 ^ 18) (h : SqT K H a [.str s, .int (c : Int), .int n]) : PTr K w H (.ref a) (.cmp s c n) 1
  | mis {a : Addr} {c : Nat} (hc : c < w) (h : SqT K H a [.str "missing", .int (c : Int)]) : PTr K w H (.ref a) (.mis c) 1
  | neg {a : Addr} {v : V} {t : Tr} {m : Nat} (h : SqT K H a [.str "negation", v]) (p : PTr K w H v t m) : PTr K w H (.ref a) (.neg t) (m + 1)
  | unt {a : Addr} {v : V} {t : Tr} {m : Nat} (h : SqT K H a [.str "untrue", v]) (p : PTr K w H v t m) : PTr K w H (.ref a) (.unt t) (m + 1)
  | jn {a : Addr} {e : Bool} {vs : List V} {ts : List Tr} {m : Nat} (h : SqT K H a (.str (jw e) :: vs)) (p : PTrs K w H vs ts m) : PTr K w H (.ref a) (.jn e ts) (m + 1)
inductive PTrs (K : PySem.W.Frag) (w : Nat) (H : Hp) : List V → List Tr → Nat → Prop where
  | nil : PTrs K w H [] [] 0
  | cons {v : V} {t : Tr} {vs : List V} {ts : List Tr} {m k : Nat} (p : PTr K w H v t m) (r : PTrs K w H vs ts k) : PTrs K w H (v :: vs) (t :: ts) (m + k)
end
section
variable {K : PySem.W.Frag} {w : Nat} {H H' : Hp}
theorem PTr.keep {v : V} {t : Tr} {m : Nat} (h : PTr K w H v t m) (e : Tp H H') : PTr K w H' v t m :=
  h.rec (motive_1 := fun v t m _ => PTr K w H' v t m) (motive_2 := fun vs ts m _ => PTrs K w H' vs ts m) (fun a b c d h => .cmp a b c d (e.tup h)) (fun a h => .mis a (e.tup h)) (fun h _ i => .neg (e.tup h) i) (fun h _ i => .unt (e.tup h) i) (fun h _ i => .jn (e.tup h) i) .nil (fun _ _ a b => .cons a b)
theorem PTrs.keep {vs : List V} {ts : List Tr} {m : Nat} (h : PTrs K w H vs ts m) (e : Tp H H') : PTrs K w H' vs ts m :=
  h.rec (motive_1 := fun v t m _ => PTr K w H' v t m) (motive_2 := fun vs ts m _ => PTrs K w H' vs ts m) (fun a b c d h => .cmp a b c d (e.tup h)) (fun a h => .mis a (e.tup h)) (fun h _ i => .neg (e.tup h) i) (fun h _ i => .unt (e.tup h) i) (fun h _ i => .jn (e.tup h) i) .nil (fun _ _ a b => .cons a b)
theorem PTr.pos {v : V} {t : Tr} {m : Nat} (h : PTr K w H v t m) : 0 < m := by
  cases h <;> omega
theorem PTrs.len {vs : List V} {ts : List Tr} {m : Nat} (h : PTrs K w H vs ts m) : vs.length = ts.length := by
  induction ts generalizing vs m with
  | nil => cases h; rfl
  | cons t ts ih =>
    cases h with
    | cons p r => simp [ih r]
theorem PTrs.le {vs : List V} {ts : List Tr} {m : Nat} (h : PTrs K w H vs ts m) : ts.length ≤ m := by
  induction ts generalizing vs m with
  | nil => exact Nat.zero_le _
  | cons t ts ih =>
    cases h with
    | cons p r =>
      have := ih r
      have := p.pos
      simp
      omega
theorem PTrs.app {vs us : List V} {ts ws : List Tr} {m n : Nat} (h : PTrs K w H vs ts m) (g : PTrs K w H us ws n) : PTrs K w H (vs ++ us) (ts ++ ws) (m + n) := by
  induction ts generalizing vs m with
  | nil =>
    cases h
    simpa using g
  | cons t ts ih =>
    cases h with
    | cons p r =>
      rw [Nat.add_assoc]
      exact .cons p (ih r)
theorem PTrs.one {v : V} {t : Tr} {m : Nat} (h : PTr K w H v t m) : PTrs K w H [v] [t] m := .cons h .nil
theorem PTrs.split {ts ws : List Tr} : ∀ {vs : List V} {m : Nat}, PTrs K w H vs (ts ++ ws) m → ∃ xs ys i j, vs = xs ++ ys ∧ m = i + j ∧ PTrs K w H xs ts i ∧ PTrs K w H ys ws j := by
  induction ts with
  | nil => exact fun {vs m} h => ⟨[], vs, 0, m, rfl, (Nat.zero_add _).symm, .nil, h⟩
  | cons t ts ih =>
    intro vs m h
    cases h with
    | cons p r =>
      obtain ⟨xs, ys, i, j, e1, e2, h1, h2⟩ := ih r
      exact ⟨_ :: xs, ys, _ + i, j, by rw [e1]; rfl, by rw [e2, Nat.add_assoc], .cons p h1, h2⟩
theorem PTrs.sing {vs : List V} {t : Tr} {m : Nat} (h : PTrs K w H vs [t] m) : ∃ v, vs = [v] ∧ PTr K w H v t m := by
  cases h with
  | cons p r =>
    cases r
    exact ⟨_, rfl, p⟩
theorem PTrs.get {ts : List Tr} : ∀ {vs : List V} {m i : Nat} {v : V}, PTrs K w H vs ts m → vs[i]? = some v → ∃ t k, ts[i]? = some t ∧ PTr K w H v t k ∧ k ≤ m := by
  induction ts with
  | nil =>
    intro vs m i v h hi
    cases h
    simp at hi
  | cons t ts ih =>
    intro vs m i v h hi
    cases h with
    | cons p r =>
      cases i with
      | zero =>
        simp at hi
        subst hi
        exact ⟨t, _, rfl, p, by omega⟩
      | succ i =>
        simp at hi
        obtain ⟨t', k, h1, h2, h3⟩ := ih r hi
        exact ⟨t', k, by simpa using h1, h2, by omega⟩
end
/-! what a predicate says of a row -/
def jnv (e : Bool) (bs : List (Option Bool)) : Option Bool := if bs.contains (some e) = true then some e else if bs.contains none = true then none else some (!e)
mutual
def ev (us : List V) : Tr → Option Bool
  | .cmp s c n => cmpO s (us.getD c .non) n
  | .mis c => some (decide (us.getD c .non = .non))
  | .neg t => (ev us t).map not
  | .unt t => some (!decide (ev us t = some true))
  | .jn e ts => jnv e (evs us ts)
def evs (us : List V) : List Tr → List (Option Bool)
  | [] => []
  | t :: ts => ev us t :: evs us ts
end
theorem evs_map (us : List V) : ∀ ts, evs us ts = ts.map (ev us)
  | [] => rfl
  | t :: ts => by
    rw [evs, evs_map us ts]
    rfl
theorem ev_jn (us : List V) (e : Bool) (ts : List Tr) : ev us (.jn e ts) = jnv e (ts.map (ev us)) := by
  rw [ev, evs_map]
def kids : Tr → List Tr
  | .neg t => [t]
  | .unt t => [t]
  | .jn _ ts => ts
  | _ => []
theorem jw_ne {x : Str} {e : Bool} (h : jw false ≠ x ∧ jw true ≠ x) : jw e ≠ x := by
  cases e
  · exact h.1
  · exact h.2
theorem jw_nin {e : Bool} : inV (.str (jw e)) [.str "<", .str "<=", .str "=", .str "!=", .str ">=", .str ">"] = false := by
  cases e <;> decide +kernel
theorem PTr.word {K : PySem.W.Frag} {w : Nat} {H : Hp} {v : V} {t : Tr} {m : Nat} (h : PTr K w H v t m) :
    (∃ a s c n, v = .ref a ∧ t = .cmp s c n ∧ s ∈ signs ∧ c < w ∧ -(10 ^ 18) < n ∧ n < 10 ^ 18 ∧ SqT K H a [.str s, .int (c : Int), .int n]) ∨ (∃ a c, v = .ref a ∧ t = .mis c ∧ c < w ∧ SqT K H a [.str "missing", .int (c : Int)]) ∨
    ∃ a x vs, v = .ref a ∧ SqT K H a (.str x :: vs) ∧ inV (.str x) [.str "<", .str "<=", .str "=", .str "!=", .str ">=", .str ">"] = false ∧ x ≠ "missing" ∧ ((x = "negation" ∧ ∃ t', t = .neg t') ∨ (x = "untrue" ∧ ∃ t', t = .unt t') ∨ ∃ e ts, x = jw e ∧ t = .jn e ts) := by
  cases h with
  | cmp hs hc h0 h1 h => exact .inl ⟨_, _, _, _, rfl, rfl, hs, hc, h0, h1, h⟩
  | mis hc h => exact .inr (.inl ⟨_, _, rfl, rfl, hc, h⟩)
  | neg h p => exact .inr (.inr ⟨_, _, _, rfl, h, by decide +kernel, by decide +kernel, .inl ⟨rfl, _, rfl⟩⟩)
  | unt h p => exact .inr (.inr ⟨_, _, _, rfl, h, by decide +kernel, by decide +kernel, .inr (.inl ⟨rfl, _, rfl⟩)⟩)
  | jn h p => exact .inr (.inr ⟨_, _, _, rfl, h, jw_nin, jw_ne (by decide +kernel), .inr (.inr ⟨_, _, rfl, rfl⟩)⟩)

/-! ### texts of predicates -/
theorem len_add (x y : Str) : (x ++ y).length = x.length + y.length := by
  rw [TL.len_tl, TL.len_tl x, TL.len_tl y, TL.tl_append, List.length_append]
theorem empty_add (x : Str) : Str.empty ++ x = x := TL.ext_tl (by rw [TL.tl_append]; rfl)
theorem lg_of {n : Int} (h0 : -(10 ^ 18) < n) (h1 : n < 10 ^ 18) : n.natAbs.log2 < 1920 := by
  by_cases e : n.natAbs = 0
  · rw [e]
    decide
  · exact Nat.lt_trans ((Nat.log2_lt e).mpr (show n.natAbs < 2 ^ 64 by omega)) (by decide)
def num (n : Int) : Str := Str.ofString (toString n)
theorem num_len {n : Int} (h : n.natAbs.log2 < 1920) : (num n).length ≤ 1921 := by
  unfold num
  rw [PySem.ofString_length]
  exact PySem.int_text_length_le (k := 1920) (by decide) h
def leafS (s : Str) (c : Nat) (n : Int) : Str := "c" ++ num c ++ " " ++ s ++ " " ++ num n
def misS (c : Nat) : Str := "c" ++ num c ++ " missing"
def wrapS (x : Str) (ys : List Str) : Str := x ++ "(" ++ PySem.Str.join ", " ys ++ ")"
mutual
def desc : Tr → Str
  | .cmp s c n => leafS s c n
  | .mis c => misS c
  | .neg t => wrapS "negation" [desc t]
  | .unt t => wrapS "untrue" [desc t]
  | .jn e ts => wrapS (jw e) (descs ts)
def descs : List Tr → List Str
  | [] => []
  | t :: ts => desc t :: descs ts
end
theorem descs_map : ∀ ts, descs ts = ts.map desc
  | [] => rfl
  | t :: ts => by
    rw [descs, descs_map ts]
    rfl
theorem desc_neg (t : Tr) : desc (.neg t) = wrapS "negation" [desc t] := by rw [desc]
theorem desc_unt (t : Tr) : desc (.unt t) = wrapS "untrue" [desc t] := by rw [desc]
theorem desc_jn (e : Bool) (ts : List Tr) : desc (.jn e ts) = wrapS (jw e) (ts.map desc) := by rw [desc, descs_map]
theorem desc_cmp (s : Str) (c : Nat) (n : Int) : desc (.cmp s c n) = leafS s c n := by rw [desc]
theorem desc_mis (c : Nat) : desc (.mis c) = misS c := by rw [desc]
theorem join_len (a : Str) : ∀ ys : List Str, (PySem.Str.join a ys).length ≤ (ys.map (·.length)).sum + ys.length * a.length
  | [] => Nat.zero_le _
  | [y] => by
    show y.length ≤ _
    simp
  | y :: z :: r => by
    have ih := join_len a (z :: r)
    show (y ++ a ++ PySem.Str.join a (z :: r)).length ≤ _
    rw [len_add, len_add]
    simp only [List.map_cons, List.sum_cons, List.length_cons] at ih ⊢
    rw [Nat.add_mul (r.length + 1) 1]
    omega
def tot (ys : List Str) : Nat := (ys.map (·.length)).sum + 2 * ys.length
theorem tot_app (xs ys : List Str) : tot (xs ++ ys) = tot xs + tot ys := by
  unfold tot
  rw [List.map_append, List.sum_append, List.length_append]
  omega
theorem tot_one (x : Str) : tot [x] = x.length + 2 := by simp [tot]
theorem wrap_len {x : Str} {ys : List Str} (h : x.length ≤ 8) : (wrapS x ys).length + 2 ≤ tot ys + 12 := by
  have := join_len ", " ys
  unfold wrapS tot
  rw [len_add, len_add, len_add, show (Str.ofString "(").length = 1 by decide +kernel, show (Str.ofString ")").length = 1 by decide +kernel]
  rw [show (Str.ofString ", ").length = 2 by decide +kernel] at this
  omega
theorem sign_len {s : Str} (h : s ∈ signs) : s.length ≤ 2 := by
  simp only [signs, List.mem_cons, List.not_mem_nil, or_false] at h
  rcases h with rfl | rfl | rfl | rfl | rfl | rfl <;> decide +kernel
theorem leaf_len {s : Str} {c : Nat} {n : Int} (hs : s ∈ signs) (hc : c < 1000) (h0 : -(10 ^ 18) < n) (h1 : n < 10 ^ 18) : (leafS s c n).length + 2 ≤ 5000 := by
  have a := num_len (lg_of (n := (c : Int)) (by omega) (by omega))
  have b := num_len (lg_of h0 h1)
  have d := sign_len hs
  unfold leafS
  rw [len_add, len_add, len_add, len_add, len_add, show (Str.ofString "c").length = 1 by decide +kernel, show (Str.ofString " ").length = 1 by decide +kernel]
  omega
theorem mis_len {c : Nat} (hc : c < 1000) : (misS c).length + 2 ≤ 5000 := by
  have a := num_len (lg_of (n := (c : Int)) (by omega) (by omega))
  unfold misS
  rw [len_add, len_add, show (Str.ofString "c").length = 1 by decide +kernel, show (Str.ofString " missing").length = 8 by decide +kernel]
  omega
theorem jw_len (e : Bool) : (jw e).length ≤ 8 := by cases e <;> decide +kernel
theorem neg_len {t : Tr} {m : Nat} (h : (desc t).length + 2 ≤ 5000 * m) : (desc (.neg t)).length + 2 ≤ 5000 * (m + 1) := by
  rw [desc_neg]
  have := wrap_len (x := "negation") (ys := [desc t]) (by decide +kernel)
  rw [tot_one] at this
  omega
theorem unt_len {t : Tr} {m : Nat} (h : (desc t).length + 2 ≤ 5000 * m) : (desc (.unt t)).length + 2 ≤ 5000 * (m + 1) := by
  rw [desc_unt]
  have := wrap_len (x := "untrue") (ys := [desc t]) (by decide +kernel)
  rw [tot_one] at this
  omega
theorem jn_len {e : Bool} {ts : List Tr} {m : Nat} (h : tot (ts.map desc) ≤ 5000 * m) : (desc (.jn e ts)).length + 2 ≤ 5000 * (m + 1) := by
  rw [desc_jn]
  have := wrap_len (x := jw e) (ys := ts.map desc) (jw_len e)
  omega
theorem cons_len {t : Tr} {ts : List Tr} {m k : Nat} (h : (desc t).length + 2 ≤ 5000 * m) (g : tot (ts.map desc) ≤ 5000 * k) : tot ((t :: ts).map desc) ≤ 5000 * (m + k) := by
  rw [List.map_cons, show desc t :: ts.map desc = [desc t] ++ ts.map desc from rfl, tot_app, tot_one]
  omega
theorem PTr.txt {K : PySem.W.Frag} {w : Nat} {H : Hp} (hw : w ≤ 1000) {v : V} {t : Tr} {m : Nat} (h : PTr K w H v t m) : (desc t).length + 2 ≤ 5000 * m :=
  h.rec (motive_1 := fun v t m _ => (desc t).length + 2 ≤ 5000 * m) (motive_2 := fun vs ts m _ => tot (ts.map desc) ≤ 5000 * m)
    (fun hs hc h0 h1 _ => by rw [desc_cmp]; exact leaf_len hs (by omega) h0 h1) (fun hc _ => by rw [desc_mis]; exact mis_len (by omega))
    (fun _ _ ih => neg_len ih) (fun _ _ ih => unt_len ih) (fun _ _ ih => jn_len ih) (Nat.zero_le _) (fun _ _ a b => cons_len a b)
theorem PTrs.txt {K : PySem.W.Frag} {w : Nat} {H : Hp} (hw : w ≤ 1000) {vs : List V} {ts : List Tr} {m : Nat} (h : PTrs K w H vs ts m) : tot (ts.map desc) ≤ 5000 * m :=
  h.rec (motive_1 := fun v t m _ => (desc t).length + 2 ≤ 5000 * m) (motive_2 := fun vs ts m _ => tot (ts.map desc) ≤ 5000 * m)
    (fun hs hc h0 h1 _ => by rw [desc_cmp]; exact leaf_len hs (by omega) h0 h1) (fun hc _ => by rw [desc_mis]; exact mis_len (by omega))
    (fun _ _ ih => neg_len ih) (fun _ _ ih => unt_len ih) (fun _ _ ih => jn_len ih) (Nat.zero_le _) (fun _ _ a b => cons_len a b)
/-! steps for texts -/
section
variable {K : PySem.W.Frag} {σ : L2.St} {H : Hp} {Q : VK} {te to : TE} {ts : List TE} {acc : Str} {R : Str → Hp → Prop}
theorem c_js (h : te σ H fun x H1 => ∃ y : Str, x = .str y ∧ (acc ++ y).length ≤ sizeLine ∧ tJs ts (acc ++ y) σ H1 R) : tJs (te :: ts) acc σ H R := h
theorem c_jsN (h : R acc H) : tJs [] acc σ H R := h
theorem c_fmt (h : te σ H fun x H1 => (∃ y : Str, x = .str y ∧ y.length ≤ sizeLine ∧ Q (.str y) H1) ∨ ∃ i : Int, x = .int i ∧ i.natAbs.log2 < 1920 ∧ Q (.str (toString i)) H1) : tFmt te σ H Q := h
theorem c_M1 {r : V → List V → Hp → VK → Prop} (h : to σ H fun x H1 => (∃ a, x = .str a) ∧ te σ H1 fun y H2 => r x [y] H2 Q) : tM1 r to te σ H Q := h
theorem big {n : Nat} (h : n ≤ 16000000) : n ≤ sizeLine := Nat.le_trans h (by decide)
end

section Tac1
/-! ### the words: "rd" goes on as far as it can; "hp" finds what stands at an address; "t" "f" a test that is known -/
local macro_rules | `(tactic| walk_at "h0") => `(tactic| first | assumption | exact upd_same)
local macro_rules | `(tactic| walk_at "n0") => `(tactic| first
  | assumption | (apply Ne.symm; assumption) | exact ne_nn (by assumption) (by walk_at "h0") | exact ne_nn' (by assumption) (by walk_at "h0"))
local macro_rules | `(tactic| walk_at "hq") => `(tactic| first
  | assumption | exact upd_same | exact (upd_ne (by walk_at "n0")).trans (by walk_at "hq"))
local macro_rules | `(tactic| walk_at "ne") => `(tactic| first
  | assumption | (apply Ne.symm; assumption) | exact ne_nn (by assumption) (by walk_at "hq") | exact ne_nn' (by assumption) (by walk_at "hq"))
local macro_rules | `(tactic| walk_at "hp") => `(tactic| first
  | assumption
  | exact upd_same
  | exact (upd_ne (by walk_at "ne")).trans (by walk_at "hp")
  | exact same_at (by assumption) (by walk_at "hp")
  | exact ex_at (by assumption) (by walk_at "ne") (by walk_at "hp"))
local macro_rules | `(tactic| walk_at "sm") => `(tactic| first
  | assumption
  | exact Same.refl _
  | exact same_new (by walk_at "sm") (by assumption)
  | exact same_mut (by walk_at "sm") (by assumption))
local macro_rules | `(tactic| walk_at "ex") => `(tactic| first
  | assumption
  | exact Ex.refl _ _
  | exact Ex.new (by walk_at "ex") (by assumption)
  | exact Ex.mut (by walk_at "ex") (by assumption)
  | exact Ex.at (by walk_at "ex"))
local macro_rules | `(tactic| walk_at "sa") => `(tactic| first
  | assumption
  | exact seq' (by assumption) (by walk_at "sm")
  | exact tup' (by assumption) (by walk_at "sm"))
local macro_rules | `(tactic| walk_at "sq") => `(tactic| first
  | assumption
  | exact seq' (by assumption) (by walk_at "sm")
  | exact tup' (by assumption) (by walk_at "sm")
  | exact sql (by walk_at "hp")
  | exact sqt (by walk_at "hp"))
local macro_rules | `(tactic| walk_at "tt") => `(tactic| first | (simp; done) | (simp; omega))
local macro_rules | `(tactic| walk_at "tf") => `(tactic| first
  | ((with_reducible show if _ = true then _ else _); refine i_T (by walk_at "tt") ?_)
  | ((with_reducible show if _ = true then _ else _); refine i_F (by walk_at "tt") ?_))
local macro_rules | `(tactic| walk_at "ix") => `(tactic| first
  | exact ixn (j := 0) (by simp)
  | exact ixn (j := 1) (by simp)
  | exact ixn (j := 2) (by simp)
  | exact ixn (j := 3) (by simp)
  | exact ixn (j := 4) (by simp)
  | exact ixn (j := 5) (by simp)
  | exact ixn (j := 6) (by simp)
  | exact ixn (j := 7) (by simp))
local macro_rules | `(tactic| walk_at "at") => `(tactic| first
  | exact atI_nat (j := 0) (by rfl)
  | exact atI_nat (j := 1) (by rfl)
  | exact atI_nat (j := 2) (by rfl)
  | exact atI_nat (j := 3) (by rfl)
  | exact atI_nat (j := 4) (by rfl)
  | exact atI_nat (j := 5) (by rfl)
  | exact atI_nat (j := 6) (by rfl)
  | exact atI_nat (j := 7) (by rfl))
local macro_rules | `(tactic| walk_at "rd1") => `(tactic| first
  | with_reducible refine c_seq ?_
  | with_reducible refine c_asg ?_
  | ((with_reducible refine c_gname ?_); try dsimp only [List.set])
  | with_reducible refine c_ret ?_
  | with_reducible refine c_ifs ?_
  | ((with_reducible show tVar _ _ _ _); refine c_var (by rfl) ?_)
  | with_reducible refine c_c ?_
  | with_reducible refine c_op ?_
  | with_reducible refine c_un ?_
  | with_reducible refine c_test ?_
  | with_reducible refine c_B ?_
  | with_reducible refine c_CB ?_
  | with_reducible refine c_cons ?_
  | with_reducible refine c_nil ?_
  | with_reducible refine c_call ?_
  | with_reducible refine c_lst ?_
  | with_reducible refine c_tup ?_
  | with_reducible refine c_drop ?_
  | with_reducible refine c_gsub ?_
  | with_reducible refine c_BM ?_
  | with_reducible refine c_BM0 ?_
  | with_reducible refine c_and ?_
  | with_reducible refine c_or ?_
  | with_reducible refine c_not ?_
  | with_reducible refine c_andV ?_
  | with_reducible refine c_orV ?_
  | with_reducible refine c_notV ?_
  | with_reducible refine c_if ?_
  | with_reducible refine c_chain ?_
  | with_reducible refine c_next ?_
  | with_reducible refine c_retN ?_
  | with_reducible refine c_yes ?_
  | ((with_reducible show rIn _ _ (V.bl _) _ _ _); first | refine r_inL (by walk_at "sq") rfl (flat_bl _) ?_ | refine r_inL (by walk_at "sq") rfl (by rfl) ?_)
  | with_reducible refine r_I0 ?_
  | with_reducible refine r_U ?_
  | with_reducible refine r_eqI ?_
  | with_reducible refine r_neI ?_
  | with_reducible refine r_eqB ?_
  | with_reducible refine r_neB ?_
  | with_reducible refine r_eqS ?_
  | with_reducible refine r_neS ?_
  | ((with_reducible show rIxL _ _ (V.int (OfNat.ofNat _)) _ _); refine r_ixL (by walk_at "sq") (by walk_at "at") ?_)
  | ((with_reducible show rIxT _ _ (V.int (OfNat.ofNat _)) _ _); refine r_ixT (by walk_at "sq") (by walk_at "at") ?_)
  | ((with_reducible show rI CMul _ _ _ _ _); refine r_I (by first | exact .inl ⟨by omega, by omega⟩ | exact .inr ⟨by omega, by omega⟩) ?_)
  | ((with_reducible show rI CDiv _ _ _ _ _); refine r_I ⟨by omega, by omega⟩ ?_)
  | ((with_reducible show rI (fun _ _ => _) _ _ _ _ _); refine r_I (by first | assumption | omega | decide) ?_)
  | with_reducible refine r_pow18 ?_
  | with_reducible refine r_pow17 ?_
  | ((with_reducible show rSetL _ _ _ _ _); refine r_setL (by walk_at "hp") (by walk_at "ix") ?_; try dsimp only [List.set]; try simp only [upd_upd])
  | ((with_reducible show tyV _ _ _ _ ∧ _); refine ⟨.inl ⟨rfl, _, by walk_at "sq"⟩, ?_⟩)
  | ((with_reducible show rPop _ _ _ _); refine r_pop (by walk_at "hp") ?_)
  | ((with_reducible show rAppend _ _ _ _); refine r_app (by walk_at "hp") (by first | assumption | exact smallLt (by omega) | exact smallLt (by simp <;> omega)) ?_)
  | ((with_reducible show _ ≤ sizeLine ∧ _); refine ⟨small (by simp), ?_⟩)
  | ((with_reducible show V.non = V.non ∧ _); refine ⟨rfl, ?_⟩)
  | with_reducible refine iteT ?_
  | with_reducible refine iteF ?_
  | with_reducible refine ⟨_, rfl, ?_⟩
  | with_reducible refine ⟨_, _, rfl, ?_⟩
  | with_reducible refine Or.inl ⟨_, rfl, ?_⟩
  | with_reducible refine Or.inr ⟨_, rfl, ?_⟩
  | ((with_reducible show ∃ _ _, [_] = [_] ∧ _); first
    | refine ⟨_, _, rfl, Or.inl (by walk_at "sa"), ?_⟩ | refine ⟨_, _, rfl, Or.inr (by walk_at "sa"), ?_⟩
    | refine ⟨_, _, rfl, Or.inl (by exact sql (by walk_at "hp")), ?_⟩ | refine ⟨_, _, rfl, Or.inr (by exact sqt (by walk_at "hp")), ?_⟩))
local macro_rules | `(tactic| walk_at "nw") => `(tactic| (intro _ _))
local macro_rules | `(tactic| walk_at "rdn") => `(tactic| repeat (first | walk_at "rd1" | ((with_reducible show ∀ _ : Addr, _ = none → _); intro _ _)))
local macro_rules | `(tactic| walk_at "rd") => `(tactic| repeat walk_at "rd1")

def topS (i : Nat) : Stmt := PySem.Challenge.pw_wholepages_k11_described.main.body.getD i (.Pass ⟨0, 0, 0, 0⟩)
abbrev s_parts_of : Stmt := topS 2
abbrev N_parts_of : List Str := ["predicate"]
theorem sc_parts_of : FnScope N_parts_of ["predicate"] (defScope s_parts_of) := ⟨rfl, rfl, rfl, by decide +kernel, rfl, by decide +kernel, by decide +kernel⟩
abbrev s_describe : Stmt := topS 3
abbrev N_describe : List Str := ["predicate", "word", "inner", "part"]
theorem sc_describe : FnScope N_describe ["predicate"] (defScope s_describe) := ⟨rfl, rfl, rfl, by decide +kernel, rfl, by decide +kernel, by decide +kernel⟩
abbrev s__law_stream : Stmt := topS 5
abbrev N__law_stream : List Str := ["_law_script"]
theorem sc__law_stream : FnScope N__law_stream ["_law_script"] (defScope s__law_stream) := ⟨rfl, rfl, rfl, by decide +kernel, rfl, by decide +kernel, by decide +kernel⟩
abbrev s__law_draw : Stmt := topS 6
abbrev N__law_draw : List Str := ["_law_stream_here", "_law_many", "_law_place", "_law_cell", "_law_number_here"]
theorem sc__law_draw : FnScope N__law_draw ["_law_stream_here", "_law_many"] (defScope s__law_draw) := ⟨rfl, rfl, rfl, by decide +kernel, rfl, by decide +kernel, by decide +kernel⟩
abbrev s__law_number : Stmt := topS 7
abbrev N__law_number : List Str := ["_law_stream_here", "_law_most", "_law_kind"]
theorem sc__law_number : FnScope N__law_number ["_law_stream_here", "_law_most"] (defScope s__law_number) := ⟨rfl, rfl, rfl, by decide +kernel, rfl, by decide +kernel, by decide +kernel⟩
abbrev s__law_pool : Stmt := topS 8
abbrev N__law_pool : List Str := ["_law_stream_here", "_law_wide", "_law_pool_here", "_law_c", "_law_numbers", "_law_k"]
theorem sc__law_pool : FnScope N__law_pool ["_law_stream_here", "_law_wide"] (defScope s__law_pool) := ⟨rfl, rfl, rfl, by decide +kernel, rfl, by decide +kernel, by decide +kernel⟩
abbrev s__law_leaf : Stmt := topS 9
abbrev N__law_leaf : List Str := ["_law_stream_here", "_law_pool_here", "_law_kind", "_law_c", "_law_sign"]
theorem sc__law_leaf : FnScope N__law_leaf ["_law_stream_here", "_law_pool_here"] (defScope s__law_leaf) := ⟨rfl, rfl, rfl, by decide +kernel, rfl, by decide +kernel, by decide +kernel⟩
abbrev s__law_recipe : Stmt := topS 10
abbrev N__law_recipe : List Str := ["_law_stream_here", "_law_pool_here", "_law_most", "_law_steps", "_law_depth", "_law_nodes", "_law_k", "_law_kind", "_law_many"]
theorem sc__law_recipe : FnScope N__law_recipe ["_law_stream_here", "_law_pool_here", "_law_most"] (defScope s__law_recipe) := ⟨rfl, rfl, rfl, by decide +kernel, rfl, by decide +kernel, by decide +kernel⟩
abbrev s__law_built : Stmt := topS 11
abbrev N__law_built : List Str := ["_law_steps", "_law_stack", "_law_step", "_law_part", "_law_rest"]
theorem sc__law_built : FnScope N__law_built ["_law_steps"] (defScope s__law_built) := ⟨rfl, rfl, rfl, by decide +kernel, rfl, by decide +kernel, by decide +kernel⟩
abbrev s__law_text : Stmt := topS 12
abbrev N__law_text : List Str := ["_law_steps", "_law_stack", "_law_step", "_law_many", "_law_rest"]
theorem sc__law_text : FnScope N__law_text ["_law_steps"] (defScope s__law_text) := ⟨rfl, rfl, rfl, by decide +kernel, rfl, by decide +kernel, by decide +kernel⟩
abbrev s_law : Stmt := topS 13
abbrev N_law : List Str := ["_law_script", "_law_stream_here", "_law_pool_here", "_law_first", "_law_second", "_law_one", "_law_steps", "_law_told"]
theorem sc_law : FnScope N_law ["_law_script"] (defScope s_law) := ⟨rfl, rfl, rfl, by decide +kernel, rfl, by decide +kernel, by decide +kernel⟩
structure Txt (K : PySem.W.Frag) (mg : Str → Option Value) : Type where
  a_parts_of : Addr
  d_parts_of : FuncData
  F_parts_of : Fun K "parts_of" "parts_of" s_parts_of a_parts_of d_parts_of
  b_parts_of : Binds K d_parts_of ["predicate"] []
  g_parts_of : mg "parts_of" = some (.ref a_parts_of)
  a_describe : Addr
  d_describe : FuncData
  F_describe : Fun K "describe" "describe" s_describe a_describe d_describe
  b_describe : Binds K d_describe ["predicate"] []
  g_describe : mg "describe" = some (.ref a_describe)
  a_stream : Addr
  d_stream : FuncData
  F_stream : Fun K "_law_stream" "_law_stream" s__law_stream a_stream d_stream
  b_stream : Binds K d_stream ["_law_script"] []
  g_stream : mg "_law_stream" = some (.ref a_stream)
  a_draw : Addr
  d_draw : FuncData
  F_draw : Fun K "_law_draw" "_law_draw" s__law_draw a_draw d_draw
  b_draw : Binds K d_draw ["_law_stream_here", "_law_many"] []
  g_draw : mg "_law_draw" = some (.ref a_draw)
  a_number : Addr
  d_number : FuncData
  F_number : Fun K "_law_number" "_law_number" s__law_number a_number d_number
  b_number : Binds K d_number ["_law_stream_here", "_law_most"] []
  g_number : mg "_law_number" = some (.ref a_number)
  a_pool : Addr
  d_pool : FuncData
  F_pool : Fun K "_law_pool" "_law_pool" s__law_pool a_pool d_pool
  b_pool : Binds K d_pool ["_law_stream_here", "_law_wide"] []
  g_pool : mg "_law_pool" = some (.ref a_pool)
  a_leaf : Addr
  d_leaf : FuncData
  F_leaf : Fun K "_law_leaf" "_law_leaf" s__law_leaf a_leaf d_leaf
  b_leaf : Binds K d_leaf ["_law_stream_here", "_law_pool_here"] []
  g_leaf : mg "_law_leaf" = some (.ref a_leaf)
  a_recipe : Addr
  d_recipe : FuncData
  F_recipe : Fun K "_law_recipe" "_law_recipe" s__law_recipe a_recipe d_recipe
  b_recipe : Binds K d_recipe ["_law_stream_here", "_law_pool_here", "_law_most"] []
  g_recipe : mg "_law_recipe" = some (.ref a_recipe)
  a_built : Addr
  d_built : FuncData
  F_built : Fun K "_law_built" "_law_built" s__law_built a_built d_built
  b_built : Binds K d_built ["_law_steps"] []
  g_built : mg "_law_built" = some (.ref a_built)
  a_text : Addr
  d_text : FuncData
  F_text : Fun K "_law_text" "_law_text" s__law_text a_text d_text
  b_text : Binds K d_text ["_law_steps"] []
  g_text : mg "_law_text" = some (.ref a_text)
  c_SIGNS : Addr
  g_SIGNS : mg "SIGNS" = some (.ref c_SIGNS)
  l_SIGNS : ∀ H : Hp, SqT K H c_SIGNS [.str "<", .str "<=", .str "=", .str "!=", .str ">=", .str ">"]
  z_abs : mg "abs" = none
  z_int : mg "int" = none
  z_isinstance : mg "isinstance" = none
  z_len : mg "len" = none
  z_list : mg "list" = none
  z_range : mg "range" = none
  z_str : mg "str" = none
  z_tuple : mg "tuple" = none
/-! ### the law's stream of numbers -/
/-- at S the law's stream: the copy of the script at L, a place, a number, how many draws it still gives -/
structure Strm (S L : Addr) (ns : List Int) (H : Hp) : Prop where
  at_ : ∃ (p : Nat) (n k : Int), H S = some (.lst [.ref L, .int p, .int n, .int k]) ∧ p ≤ ns.length ∧ 0 ≤ n ∧ 0 ≤ k
  lst : H L = some (.lst (ns.map V.int))
  ne : L ≠ S
  len : ns.length ≤ 63
theorem strm_at {S L : Addr} {ns : List Int} {H : Hp} {q n c : Int} (eL : H L = some (.lst (ns.map V.int))) (ne : L ≠ S) (hl : ns.length ≤ 63) (h0 : 0 ≤ q) (h1 : q ≤ ns.length) (hn : 0 ≤ n) (hc : 0 ≤ c) : Strm S L ns (upd H S (.lst [.ref L, .int q, .int n, .int c])) :=
  ⟨⟨q.toNat, n, c, by rw [upd_same, Int.toNat_of_nonneg h0], by omega, hn, hc⟩, by rw [upd_ne ne]; exact eL, ne, hl⟩
theorem Strm.new {S L : Addr} {ns : List Int} {H : Hp} {p : Addr} {o : HO} (s : Strm S L ns H) (h : H p = none) : Strm S L ns (upd H p o) := by
  obtain ⟨⟨a, b, c, e, z⟩, l, n, q⟩ := s
  exact ⟨⟨a, b, c, by rw [upd_ne (ne_of_none e h)]; exact e, z⟩, by rw [upd_ne (ne_of_none l h)]; exact l, n, q⟩
theorem Strm.upd {S L : Addr} {ns : List Int} {H : Hp} {p : Addr} {o : HO} (s : Strm S L ns H) (h1 : p ≠ S) (h2 : p ≠ L) : Strm S L ns (upd H p o) := by
  obtain ⟨⟨a, b, c, e, z⟩, l, n, q⟩ := s
  exact ⟨⟨a, b, c, by rw [upd_ne h1.symm]; exact e, z⟩, by rw [upd_ne h2.symm]; exact l, n, q⟩
theorem Strm.same {S L : Addr} {ns : List Int} {H H' : Hp} (s : Strm S L ns H) (h : Same H H') : Strm S L ns H' := by
  obtain ⟨⟨a, b, c, e, z⟩, l, n, q⟩ := s
  exact ⟨⟨a, b, c, h _ _ e, z⟩, h _ _ l, n, q⟩
theorem Strm.neS {S L : Addr} {ns : List Int} {H : Hp} {p : Addr} (s : Strm S L ns H) (h : H p = none) : p ≠ S := by
  obtain ⟨⟨a, b, c, e, z⟩, l, n, q⟩ := s
  exact (ne_of_none e h).symm
theorem Strm.neL {S L : Addr} {ns : List Int} {H : Hp} {p : Addr} (s : Strm S L ns H) (h : H p = none) : p ≠ L := by
  obtain ⟨⟨a, b, c, e, z⟩, l, n, q⟩ := s
  exact (ne_of_none l h).symm
def spStream (K : PySem.W.Frag) : Sp := fun vs H Q _ => ∃ (a : Addr) (ns : List Int), vs = [.ref a] ∧ SqL K H a (ns.map V.int) ∧ ns.length ≤ 63 ∧ ∀ S L H', H S = none → Same H H' → Strm S L ns H' → Q (.ref S) H'
def spDraw : Sp := fun vs H Q _ => ∃ (S L : Addr) (ns : List Int) (m : Int), vs = [.ref S, .int m] ∧ Strm S L ns H ∧ 0 < m ∧ m.natAbs < 2 ^ 200 ∧ ∀ r H', 0 ≤ r → r < m → Ex S H H' → Strm S L ns H' → Q (.int r) H'
theorem use_draw {S L : Addr} {ns : List Int} {m : Int} {H : Hp} {Q : VK} {E : XK} (s : Strm S L ns H) (h0 : 0 < m) (h1 : m < 10 ^ 40) (k : ∀ r H', 0 ≤ r → r < m → Ex S H H' → Strm S L ns H' → Q (.int r) H') : spDraw [.ref S, .int m] H Q E :=
  ⟨S, L, ns, m, rfl, s, h0, by omega, k⟩
section
variable {P : Program} {w : World} {K : PySem.W.Frag} {mg : Str → Option Value} {base : Heap}
theorem ok_stream (T : Txt K mg) : FnOk P w K mg base CX0 1 T.a_stream T.d_stream ["_law_script"] (spStream K) := by
  refine T.F_stream.ok sc__law_stream (fun vs H Q E h => ?_) (fun cdv A outer s H vs Q E hr h => ⟨_, (pss_one (ps_ret (pe_lst (pa_cons (pe_callTy call_list_of (by rfl) T.z_list (by decide +kernel) (pa_cons (pv 0) pa_nil)) (pa_cons pe_int (pa_cons pe_int (pa_cons pe_int pa_nil))))))), ?_⟩)
  · first | (obtain ⟨rfl, _⟩ := h; rfl) | (obtain ⟨_, rfl, _⟩ := h; rfl) | (obtain ⟨_, _, rfl, _⟩ := h; rfl) | (obtain ⟨_, _, _, rfl, _⟩ := h; rfl) | (obtain ⟨_, _, _, _, rfl, _⟩ := h; rfl) | (obtain ⟨_, _, _, _, _, rfl, _⟩ := h; rfl) | (obtain ⟨_, _, _, _, _, _, rfl, _⟩ := h; rfl) | (obtain ⟨_, _, _, _, _, _, _, rfl, _⟩ := h; rfl) | (obtain ⟨_, _, _, _, _, _, _, _, rfl, _⟩ := h; rfl) | (obtain ⟨_, _, _, _, _, _, _, _, _, rfl, _⟩ := h; rfl) | (obtain ⟨_, _, _, _, _, _, _, _, _, _, rfl, _⟩ := h; rfl) | (obtain ⟨_, _, _, _, _, _, _, _, _, _, _, rfl, _⟩ := h; rfl) | (obtain ⟨_, _, _, _, _, _, _, _, _, _, _, _, rfl, _⟩ := h; rfl) | (obtain ⟨_, _, _, _, _, _, _, _, _, _, _, _, _, rfl, _⟩ := h; rfl) | (obtain ⟨_, _, _, _, _, _, _, _, _, _, _, _, _, _, rfl, _⟩ := h; rfl)
  · obtain ⟨a, ns, rfl, hS, hl, k⟩ := h
    try dsimp only [cxOf, Cx.nox, Cx.wish]
    refine st_of (σ := [some _]) rfl ?_
    walk_at "rd"
    intro L hL
    walk_at "rd"
    intro S hs
    have hs' : H S = none := by
      by_cases e : S = L
      · rw [e, upd_same] at hs
        cases hs
      · rw [upd_ne e] at hs
        exact hs
    refine k S L _ hs' (by walk_at "sm") ⟨⟨0, 0, 0, upd_same, Nat.zero_le _, Int.le_refl _, Int.le_refl _⟩, ?_, ?_, hl⟩
    · have e : L ≠ S := ne_of_none upd_same hs
      rw [upd_ne e]
      exact upd_same
    · exact ne_of_none upd_same hs
theorem ok_draw (T : Txt K mg) : FnOk P w K mg base CX0 1 T.a_draw T.d_draw ["_law_stream_here", "_law_many"] (spDraw) := by
  refine T.F_draw.ok sc__law_draw (fun vs H Q E h => ?_) (fun cdv A outer s H vs Q E hr h => ⟨_, (Evl.pss_cut (ps_if (PW.pt (pw_and (PW.pt (pw_or (pt_cmpR op_eq (pe_ix ix_list (pv 0) pe_int (fun _ _ => rfl)) pe_int (nomark _)) (pw_or1 (pt_cmpR op_eq (pe_ix ix_list (pv 0) pe_int (fun _ _ => rfl)) pe_int (nomark _))))) (pw_and1 (pt_cmpR op_lt (pe_ix ix_list (pv 0) pe_int (fun _ _ => rfl)) (pe_callB call_len_seq (by rfl) T.z_len PySem.boot_len (pa_cons (pe_ix ix_list (pv 0) pe_int (fun _ _ => rfl)) pa_nil)) (nomark _)))))
      (pss_cons (ps_set (i := 2) sc__law_draw.nd rfl (.inl rfl) (pe_ix ix_list (pv 0) pe_int (fun _ _ => rfl)))
      (pss_cons (ps_set (i := 3) sc__law_draw.nd rfl (.inl rfl) (pe_ix ix_list (pe_ix ix_list (pv 0) pe_int (fun _ _ => rfl)) (pv 2) (fun _ _ => rfl)))
      (pss_cons (ps_set (i := 4) sc__law_draw.nd rfl (.inl rfl) (pe_op op_add (pe_op op_mul pe_int (pe_callB call_abs (by rfl) T.z_abs (by decide +kernel) (pa_cons (pv 3) pa_nil))) (pe_callTy call_int1 (by rfl) T.z_int (by decide +kernel) (pa_cons (pe_cmpR op_lt (pv 3) pe_int (nomark _)) pa_nil))))
      (pss_cons (ps_if (pt_cmpR op_lt (pv 4) (pe_op op_mul pe_int (pe_op op_pow pe_int pe_int)) (nomark _))
      (pss_cons (ps_set (i := 4) sc__law_draw.nd rfl (.inl rfl) (pe_op op_mod (pe_callTy call_int1 (by rfl) T.z_int (by decide +kernel) (pa_cons (pe_op op_add (pe_op op_mul (pv 4) pe_int) (pe_op op_mul (pe_op op_add (pe_op op_mul (pv 2) (pv 2)) pe_int) pe_int)) pa_nil)) pe_int))
      (pss_one (ps_set (i := 4) sc__law_draw.nd rfl (.inl rfl) (pe_op op_mod (pe_callTy call_int1 (by rfl) T.z_int (by decide +kernel) (pa_cons (pe_op op_add (pe_op op_add (pe_op op_mul (pe_op op_mul (pv 4) (pv 4)) pe_int) (pe_op op_mul (pv 4) pe_int)) pe_int) pa_nil)) pe_int))))
      pss_nil)
      (pss_cons (ps_asg (pe_op op_add (pv 2) pe_int) (pg_sub (pv 0) pe_int set_list))
      (pss_cons (ps_asg (pv 4) (pg_sub (pv 0) pe_int set_list))
      (pss_one (ps_asg pe_int (pg_sub (pv 0) pe_int set_list)))))))))
      pss_nil)
      (pss_cons (ps_if (pt_cmpR op_eq (pe_ix ix_list (pv 0) pe_int (fun _ _ => rfl)) pe_int (nomark _))
      (pss_one (ps_ret pe_int))
      pss_nil)
      (pss_cons (ps_set (i := 4) sc__law_draw.nd rfl (.inl rfl) (pe_ix ix_list (pv 0) pe_int (fun _ _ => rfl)))
      (pss_cons (ps_asg (pe_op op_fdivW (pv 4) (pv 1)) (pg_sub (pv 0) pe_int set_list))
      (pss_cons (ps_asg (pe_op op_sub (pe_ix ix_list (pv 0) pe_int (fun _ _ => rfl)) pe_int) (pg_sub (pv 0) pe_int set_list))
      (pss_one (ps_ret (pe_op op_mod (pe_callTy call_int1 (by rfl) T.z_int (by decide +kernel) (pa_cons (pv 4) pa_nil)) (pv 1))))))))), ?_⟩)
  · first | (obtain ⟨rfl, _⟩ := h; rfl) | (obtain ⟨_, rfl, _⟩ := h; rfl) | (obtain ⟨_, _, rfl, _⟩ := h; rfl) | (obtain ⟨_, _, _, rfl, _⟩ := h; rfl) | (obtain ⟨_, _, _, _, rfl, _⟩ := h; rfl) | (obtain ⟨_, _, _, _, _, rfl, _⟩ := h; rfl) | (obtain ⟨_, _, _, _, _, _, rfl, _⟩ := h; rfl) | (obtain ⟨_, _, _, _, _, _, _, rfl, _⟩ := h; rfl) | (obtain ⟨_, _, _, _, _, _, _, _, rfl, _⟩ := h; rfl) | (obtain ⟨_, _, _, _, _, _, _, _, _, rfl, _⟩ := h; rfl) | (obtain ⟨_, _, _, _, _, _, _, _, _, _, rfl, _⟩ := h; rfl) | (obtain ⟨_, _, _, _, _, _, _, _, _, _, _, rfl, _⟩ := h; rfl) | (obtain ⟨_, _, _, _, _, _, _, _, _, _, _, _, rfl, _⟩ := h; rfl) | (obtain ⟨_, _, _, _, _, _, _, _, _, _, _, _, _, rfl, _⟩ := h; rfl) | (obtain ⟨_, _, _, _, _, _, _, _, _, _, _, _, _, _, rfl, _⟩ := h; rfl)
  · obtain ⟨S, L, ns, m, rfl, hS, h0, h1, k⟩ := h
    try dsimp only [cxOf, Cx.nox, Cx.wish]
    refine st_of (σ := [some _, some _, none, none, none]) rfl ?_
    obtain ⟨⟨p, n, c, eS, hp, hn, hc⟩, eL, ne, hl⟩ := hS
    have hm : CDivW n m := wide_div h0 h1 (by decide) (by decide)
    refine ⟨fun σ' H' => ∃ x y z, σ' = [some (.ref S), some (.int m), x, y, z] ∧ Ex S H H' ∧ Strm S L ns H', ?_, ?_⟩
    · walk_at "rd"
      have key : ∀ H', Ex S H H' → Strm S L ns H' → (∃ x y z, [some (V.ref S), some (V.int m), none, none, none] = [some (V.ref S), some (V.int m), x, y, z] ∧ Ex S H H' ∧ Strm S L ns H') := fun H' a b => ⟨_, _, _, rfl, a, b⟩
      refine i_d (p := n = 0) (fun hz => ?_) (fun hz => ?_)
      · walk_at "rd"
        refine i_d (fun hl2 => ?_) (fun hl2 => ?_)
        · rw [List.length_map] at hl2
          have hlt : p < ns.length := by omega
          walk_at "rd"
          refine r_ixL (sql eL) (atI_nat (map_at hlt)) ?_
          generalize ns[p] = z
          walk_at "rd"
          refine i_d (fun hb => ?_) (fun hb => ?_)
          · walk_at "rd"
            exact ⟨_, _, _, rfl, Ex.at (Ex.refl _ _), strm_at eL ne hl (by omega) (by omega) (Int.emod_nonneg _ (by decide)) (by decide)⟩
          · walk_at "rd"
            exact ⟨_, _, _, rfl, Ex.at (Ex.refl _ _), strm_at eL ne hl (by omega) (by omega) (by split <;> split <;> omega) (by decide)⟩
        · walk_at "rd"
          exact key H (Ex.refl _ _) ⟨⟨p, n, c, eS, hp, hn, hc⟩, eL, ne, hl⟩
      · walk_at "rd"
        refine i_d (p := c = 0) (fun hz => ?_) (fun hz => ?_)
        · walk_at "rd"
          refine i_d (fun hl2 => ?_) (fun hl2 => ?_)
          · rw [List.length_map] at hl2
            have hlt : p < ns.length := by omega
            walk_at "rd"
            refine r_ixL (sql eL) (atI_nat (map_at hlt)) ?_
            generalize ns[p] = z
            walk_at "rd"
            refine i_d (fun hb => ?_) (fun hb => ?_)
            · walk_at "rd"
              exact ⟨_, _, _, rfl, Ex.at (Ex.refl _ _), strm_at eL ne hl (by omega) (by omega) (Int.emod_nonneg _ (by decide)) (by decide)⟩
            · walk_at "rd"
              exact ⟨_, _, _, rfl, Ex.at (Ex.refl _ _), strm_at eL ne hl (by omega) (by omega) (by split <;> split <;> omega) (by decide)⟩
          · walk_at "rd"
            exact key H (Ex.refl _ _) ⟨⟨p, n, c, eS, hp, hn, hc⟩, eL, ne, hl⟩
        · walk_at "rd"
          exact key H (Ex.refl _ _) ⟨⟨p, n, c, eS, hp, hn, hc⟩, eL, ne, hl⟩
    · rintro σ' H' ⟨x, y, z, rfl, ex, ⟨⟨p, n, c, eS, hp, hn, hc⟩, eL, ne, hl⟩⟩
      have hm : CDivW n m := wide_div h0 h1 (by decide) (by decide)
      walk_at "rd"
      refine i_d (p := c = 0) (fun hz => ?_) (fun hz => ?_)
      · walk_at "rd"
        exact k 0 H' (Int.le_refl _) h0 ex ⟨⟨p, n, c, eS, hp, hn, hc⟩, eL, ne, hl⟩
      · walk_at "rd"
        exact k _ _ (Int.emod_nonneg _ (by omega)) (Int.emod_lt_of_pos _ h0) (Ex.at ex) (strm_at eL ne hl (by omega) (by omega) (Int.ediv_nonneg hn (by omega)) (by omega))
end

/-! ### numbers, pools, rows -/
def spNumber : Sp := fun vs H Q _ => ∃ (S L : Addr) (ns : List Int) (m : Int), vs = [.ref S, .int m] ∧ Strm S L ns H ∧ 6 ≤ m ∧ m < 10 ^ 30 ∧ ∀ r H', -m ≤ r → r ≤ m → Ex S H H' → Strm S L ns H' → Q (.int r) H'
theorem use_number {S L : Addr} {ns : List Int} {m : Int} {H : Hp} {Q : VK} {E : XK} (s : Strm S L ns H) (h0 : 6 ≤ m) (h1 : m < 10 ^ 30) (k : ∀ r H', -m ≤ r → r ≤ m → Ex S H H' → Strm S L ns H' → Q (.int r) H') : spNumber [.ref S, .int m] H Q E :=
  ⟨S, L, ns, m, rfl, s, h0, h1, k⟩
/-- a list of numbers at q -/
structure Nums (S : Addr) (H : Hp) (q : Addr) (ns : List Int) : Prop where
  at_ : H q = some (.lst (ns.map V.int))
  ne : q ≠ S
  len : ns.length ≤ 8
  bd : ∀ z ∈ ns, -(10 ^ 18) < z ∧ z < 10 ^ 18
theorem Nums.ex {S q : Addr} {H H' : Hp} {ns : List Int} (n : Nums S H q ns) (e : Ex S H H') : Nums S H' q ns := ⟨e _ _ n.ne n.at_, n.ne, n.len, n.bd⟩
/-- a pool: at p a list of n lists of numbers -/
structure Pool (S : Addr) (H : Hp) (p : Addr) (qs : List Addr) : Prop where
  at_ : H p = some (.lst (qs.map V.ref))
  ne : p ≠ S
  each : ∀ q ∈ qs, ∃ ns, Nums S H q ns ∧ 0 < ns.length
theorem Pool.ex {S p : Addr} {H H' : Hp} {qs : List Addr} (n : Pool S H p qs) (e : Ex S H H') : Pool S H' p qs :=
  ⟨e _ _ n.ne n.at_, n.ne, fun q hq => let ⟨ns, a, b⟩ := n.each q hq; ⟨ns, a.ex e, b⟩⟩
def spPool : Sp := fun vs H Q _ => ∃ (S L : Addr) (ns : List Int) (w : Nat), vs = [.ref S, .int (w : Int)] ∧ Strm S L ns H ∧ 1 ≤ w ∧ w ≤ 3 ∧ ∀ p qs H', H p = none → Ex S H H' → Strm S L ns H' → Pool S H' p qs → qs.length = w → Q (.ref p) H'
theorem Nums.app {S q : Addr} {H : Hp} {ns : List Int} {z : Int} (n : Nums S H q ns) (h : ns.length < 8) (h0 : -(10 ^ 18) < z) (h1 : z < 10 ^ 18) : Nums S (upd H q (.lst (ns.map V.int ++ [.int z]))) q (ns ++ [z]) :=
  ⟨by rw [upd_same, List.map_append]; rfl, n.ne, by rw [List.length_append]; exact h, fun y hy => by
    rcases List.mem_append.mp hy with hy | hy
    · exact n.bd y hy
    · rw [List.mem_singleton] at hy
      subst hy
      exact ⟨h0, h1⟩⟩
theorem Nums.get {S q : Addr} {H : Hp} {ns : List Int} (n : Nums S H q ns) {i : Nat} (h : i < ns.length) : -(10 ^ 18) < ns[i] ∧ ns[i] < 10 ^ 18 := n.bd _ (List.getElem_mem h)
theorem Pool.app {S p q : Addr} {H : Hp} {qs : List Addr} {ns : List Int} (n : Pool S H p qs) (hq : Nums S H q ns) (h0 : 0 < ns.length) (hpq : q ≠ p) (hqs : ∀ x ∈ qs, x ≠ p) : Pool S (upd H p (.lst (qs.map V.ref ++ [.ref q]))) p (qs ++ [q]) :=
  ⟨by rw [upd_same, List.map_append]; rfl, n.ne, fun y hy => by
    rcases List.mem_append.mp hy with hy | hy
    · obtain ⟨ms, a, b⟩ := n.each y hy
      exact ⟨ms, ⟨(upd_ne (hqs y hy)).trans a.at_, a.ne, a.len, a.bd⟩, b⟩
    · rw [List.mem_singleton] at hy
      subst hy
      exact ⟨ns, ⟨(upd_ne hpq).trans hq.at_, hq.ne, hq.len, hq.bd⟩, h0⟩⟩
theorem pick3 {w : Nat} (h0 : 1 ≤ w) (h1 : w ≤ 3) : ∃ v : Int, atI [V.int 8, .int 7, .int 2] ((w : Int) - 1) = some (.int v) ∧ 0 < v ∧ v ≤ 8 := by
  have : w = 1 ∨ w = 2 ∨ w = 3 := by omega
  rcases this with rfl | rfl | rfl
  · exact ⟨8, atI_nat (j := 0) rfl, by decide, by decide⟩
  · exact ⟨7, atI_nat (j := 1) rfl, by decide, by decide⟩
  · exact ⟨2, atI_nat (j := 2) rfl, by decide, by decide⟩
section
variable {P : Program} {w : World} {K : PySem.W.Frag} {mg : Str → Option Value} {base : Heap}
theorem ok_number (T : Txt K mg) : FnOk P w K mg base CX0 2 T.a_number T.d_number ["_law_stream_here", "_law_most"] (spNumber) := by
  refine T.F_number.ok sc__law_number (fun vs H Q E h => ?_) (fun cdv A outer s H vs Q E hr h => ⟨_, (pss_cons (ps_set (i := 2) sc__law_number.nd rfl (.inl rfl) (pe_call (ok_draw T) (hr.mono (by decide)) (by rfl) T.g_draw T.F_draw.kp T.b_draw .nil pass0 (pa_cons (pv 0) (pa_cons pe_int pa_nil))))
      (pss_cons (ps_if (pt_cmpR op_eq (pv 2) pe_int (nomark _))
      (pss_one (ps_ret (pe_op op_sub (pe_call (ok_draw T) (hr.mono (by decide)) (by rfl) T.g_draw T.F_draw.kp T.b_draw .nil pass0 (pa_cons (pv 0) (pa_cons (pe_op op_add (pe_op op_mul pe_int (pv 1)) pe_int) pa_nil))) (pv 1))))
      pss_nil)
      (pss_cons (ps_if (pt_cmpR op_eq (pv 2) pe_int (nomark _))
      (pss_one (ps_ret (pe_op op_mul (pe_op op_sub (pv 1) (pe_call (ok_draw T) (hr.mono (by decide)) (by rfl) T.g_draw T.F_draw.kp T.b_draw .nil pass0 (pa_cons (pv 0) (pa_cons pe_int pa_nil)))) (pe_op op_sub pe_int (pe_op op_mul pe_int (pe_call (ok_draw T) (hr.mono (by decide)) (by rfl) T.g_draw T.F_draw.kp T.b_draw .nil pass0 (pa_cons (pv 0) (pa_cons pe_int pa_nil))))))))
      pss_nil)
      (pss_one (ps_ret (pe_op op_sub (pe_call (ok_draw T) (hr.mono (by decide)) (by rfl) T.g_draw T.F_draw.kp T.b_draw .nil pass0 (pa_cons (pv 0) (pa_cons pe_int pa_nil))) pe_int)))))), ?_⟩)
  · first | (obtain ⟨rfl, _⟩ := h; rfl) | (obtain ⟨_, rfl, _⟩ := h; rfl) | (obtain ⟨_, _, rfl, _⟩ := h; rfl) | (obtain ⟨_, _, _, rfl, _⟩ := h; rfl) | (obtain ⟨_, _, _, _, rfl, _⟩ := h; rfl) | (obtain ⟨_, _, _, _, _, rfl, _⟩ := h; rfl) | (obtain ⟨_, _, _, _, _, _, rfl, _⟩ := h; rfl) | (obtain ⟨_, _, _, _, _, _, _, rfl, _⟩ := h; rfl) | (obtain ⟨_, _, _, _, _, _, _, _, rfl, _⟩ := h; rfl) | (obtain ⟨_, _, _, _, _, _, _, _, _, rfl, _⟩ := h; rfl) | (obtain ⟨_, _, _, _, _, _, _, _, _, _, rfl, _⟩ := h; rfl) | (obtain ⟨_, _, _, _, _, _, _, _, _, _, _, rfl, _⟩ := h; rfl) | (obtain ⟨_, _, _, _, _, _, _, _, _, _, _, _, rfl, _⟩ := h; rfl) | (obtain ⟨_, _, _, _, _, _, _, _, _, _, _, _, _, rfl, _⟩ := h; rfl) | (obtain ⟨_, _, _, _, _, _, _, _, _, _, _, _, _, _, rfl, _⟩ := h; rfl)
  · obtain ⟨S, L, ns, m, rfl, st, h0, h1, k⟩ := h
    try dsimp only [cxOf, Cx.nox, Cx.wish]
    refine st_of (σ := [some _, some _, none]) rfl ?_
    walk_at "rd"
    refine use_draw st (by decide) (by decide) (fun kd H1 k0 k1 x1 st1 => ?_)
    walk_at "rd"
    refine i_d (fun hk => ?_) (fun hk => ?_)
    · walk_at "rd"
      refine use_draw st1 (by omega) (by omega) (fun r H2 r0 r1 x2 st2 => ?_)
      walk_at "rd"
      exact k _ _ (by omega) (by omega) (x1.trans x2) st2
    · walk_at "rd"
      refine i_d (fun hk => ?_) (fun hk => ?_)
      · walk_at "rd"
        refine use_draw st1 (by decide) (by decide) (fun r H2 r0 r1 x2 st2 => ?_)
        walk_at "rd"
        refine use_draw st2 (by decide) (by decide) (fun e H3 e0 e1 x3 st3 => ?_)
        walk_at "rd"
        have he : e = 0 ∨ e = 1 := by omega
        rcases he with rfl | rfl
        · exact k _ _ (by omega) (by omega) ((x1.trans x2).trans x3) st3
        · exact k _ _ (by omega) (by omega) ((x1.trans x2).trans x3) st3
      · walk_at "rd"
        refine use_draw st1 (by decide) (by decide) (fun r H2 r0 r1 x2 st2 => ?_)
        walk_at "rd"
        exact k _ _ (by omega) (by omega) (x1.trans x2) st2
theorem ok_pool (T : Txt K mg) : FnOk P w K mg base CX0 3 T.a_pool T.d_pool ["_law_stream_here", "_law_wide"] (spPool) := by
  refine T.F_pool.ok sc__law_pool (fun vs H Q E h => ?_) (fun cdv A outer s H vs Q E hr h => ⟨_, (pss_cons (ps_set (i := 2) sc__law_pool.nd rfl (.inl rfl) (pe_lst pa_nil))
      (pss_cons (ps_for PassesOwn.never rfl (pi_range1 (by rfl) T.z_range (pa_cons (pv 1) pa_nil)) (pg_name (i := 3) sc__law_pool.nd rfl (.inl rfl))
      (pss_cons (ps_set (i := 4) sc__law_pool.nd rfl (.inl rfl) (pe_lst (pa_cons (pe_call (ok_number T) (hr.mono (by decide)) (by rfl) T.g_number T.F_number.kp T.b_number .nil pass0 (pa_cons (pv 0) (pa_cons (pe_op op_sub (pe_op op_pow pe_int pe_int) pe_int) pa_nil))) pa_nil)))
      (pss_cons (ps_for PassesOwn.never rfl (pi_range1 (by rfl) T.z_range (pa_cons (pe_call (ok_draw T) (hr.mono (by decide)) (by rfl) T.g_draw T.F_draw.kp T.b_draw .nil pass0 (pa_cons (pv 0) (pa_cons (pe_ix ix_list (pe_lst (pa_cons pe_int (pa_cons pe_int (pa_cons pe_int pa_nil)))) (pe_op op_sub (pv 1) pe_int) (fun _ _ => rfl)) pa_nil))) pa_nil)) (pg_name (i := 5) sc__law_pool.nd rfl (.inl rfl))
      (pss_one (ps_if (PW.pt (pw_and (pt_cmpR op_lt (pe_ix ix_list (pv 4) (pv 5) (fun _ _ => rfl)) (pe_op op_sub (pe_op op_pow pe_int pe_int) pe_int) (nomark _)) (pw_and1 (pt_cmpR op_eq (pe_call (ok_draw T) (hr.mono (by decide)) (by rfl) T.g_draw T.F_draw.kp T.b_draw .nil pass0 (pa_cons (pv 0) (pa_cons pe_int pa_nil))) pe_int (nomark _)))))
      (pss_one (ps_expr (pe_bm PySem.F.plainAttrs_list PySem.F.slot_list_append PySem.F.type_list_append mt_append (pv 4) (pa_cons (pe_op op_add (pe_ix ix_list (pv 4) (pv 5) (fun _ _ => rfl)) (pe_call (ok_draw T) (hr.mono (by decide)) (by rfl) T.g_draw T.F_draw.kp T.b_draw .nil pass0 (pa_cons (pv 0) (pa_cons pe_int pa_nil)))) pa_nil))))
      (pss_one (ps_expr (pe_bm PySem.F.plainAttrs_list PySem.F.slot_list_append PySem.F.type_list_append mt_append (pv 4) (pa_cons (pe_call (ok_number T) (hr.mono (by decide)) (by rfl) T.g_number T.F_number.kp T.b_number .nil pass0 (pa_cons (pv 0) (pa_cons (pe_op op_sub (pe_op op_pow pe_int pe_int) pe_int) pa_nil))) pa_nil)))))))
      (pss_one (ps_expr (pe_bm PySem.F.plainAttrs_list PySem.F.slot_list_append PySem.F.type_list_append mt_append (pv 2) (pa_cons (pv 4) pa_nil)))))))
      (pss_one (ps_ret (pv 2))))), ?_⟩)
  · first | (obtain ⟨rfl, _⟩ := h; rfl) | (obtain ⟨_, rfl, _⟩ := h; rfl) | (obtain ⟨_, _, rfl, _⟩ := h; rfl) | (obtain ⟨_, _, _, rfl, _⟩ := h; rfl) | (obtain ⟨_, _, _, _, rfl, _⟩ := h; rfl) | (obtain ⟨_, _, _, _, _, rfl, _⟩ := h; rfl) | (obtain ⟨_, _, _, _, _, _, rfl, _⟩ := h; rfl) | (obtain ⟨_, _, _, _, _, _, _, rfl, _⟩ := h; rfl) | (obtain ⟨_, _, _, _, _, _, _, _, rfl, _⟩ := h; rfl) | (obtain ⟨_, _, _, _, _, _, _, _, _, rfl, _⟩ := h; rfl) | (obtain ⟨_, _, _, _, _, _, _, _, _, _, rfl, _⟩ := h; rfl) | (obtain ⟨_, _, _, _, _, _, _, _, _, _, _, rfl, _⟩ := h; rfl) | (obtain ⟨_, _, _, _, _, _, _, _, _, _, _, _, rfl, _⟩ := h; rfl) | (obtain ⟨_, _, _, _, _, _, _, _, _, _, _, _, _, rfl, _⟩ := h; rfl) | (obtain ⟨_, _, _, _, _, _, _, _, _, _, _, _, _, _, rfl, _⟩ := h; rfl)
  · obtain ⟨S, L, ns, w, rfl, st, h0, h1, k⟩ := h
    try dsimp only [cxOf, Cx.nox, Cx.wish]
    refine st_of (σ := [some _, some _, none, none, none, none]) rfl ?_
    walk_at "rd"
    intro p hp
    have npS := st.neS hp
    have npL := st.neL hp
    walk_at "rd"
    with_reducible refine c_rng1 ?_
    walk_at "rd"
    refine ⟨by omega, by omega, for_range (lo := 0) (n := w) (fun i σ G => ∃ (qs : List Addr) (e3 e4 e5 : Option V), σ = [some (.ref S), some (.int (w : Int)), some (.ref p), e3, e4, e5] ∧ Strm S L ns G ∧ Ex S H G ∧ Pool S G p qs ∧ qs.length = i ∧ ∀ x ∈ qs, x ≠ p) ?_ ?_ ?_⟩
    · exact ⟨[], _, _, _, rfl, st.new hp, Ex.new (Ex.refl _ _) hp, ⟨upd_same, npS, fun q hq => nomatch hq⟩, rfl, fun q hq => nomatch hq⟩
    · rintro i σ G hi ⟨qs, e3, e4, e5, rfl, stG, xG, pl, hlen, hqp⟩
      walk_at "rd"
      refine use_number stG (by decide) (by decide) (fun z H1 z0 z1 x1 st1 => ?_)
      walk_at "rd"
      intro q hq
      have pl1 := pl.ex x1
      have hG1 := pl1.at_
      have nqp : q ≠ p := (ne_of_none hG1 hq).symm
      have nqS := st1.neS hq
      have nqL := st1.neL hq
      have hqx : ∀ x ∈ qs, x ≠ q := fun x hx => by
        obtain ⟨us, a, _⟩ := pl1.each x hx
        exact ne_of_none a.at_ hq
      have hqH : H q = none := by
        cases e : H q with
        | none => rfl
        | some o =>
          have := (xG.trans x1) _ _ nqS e
          rw [hq] at this
          cases this
      walk_at "rd"
      with_reducible refine c_rng1 ?_
      walk_at "rd"
      intro t ht
      walk_at "rd"
      obtain ⟨v, hv, v0, v8⟩ := pick3 h0 h1
      refine r_ixL (sql upd_same) hv ?_
      walk_at "rd"
      refine use_draw ((st1.new hq).new ht) v0 (by omega) (fun r H2 r0 r1 x2 st2 => ?_)
      have x02 : Ex S G H2 := x1.trans ((Ex.new (Ex.new (Ex.refl _ _) hq) ht).trans x2)
      have nm2 : Nums S H2 q [z] := ⟨x2 _ _ nqS (by walk_at "hp"), nqS, by simp, fun y hy => by
        rw [List.mem_singleton] at hy
        subst hy
        exact ⟨by omega, by omega⟩⟩
      walk_at "rd"
      refine ⟨by omega, by omega, for_range (lo := 0) (n := r.toNat) (fun j σ G3 => ∃ (ms : List Int) (e5 : Option V), σ = [some (.ref S), some (.int (w : Int)), some (.ref p), some (.int (0 + (i : Int))), some (.ref q), e5] ∧ Strm S L ns G3 ∧ Ex S H G3 ∧ Pool S G3 p qs ∧ Nums S G3 q ms ∧ ms.length = j + 1) ?_ ?_ ?_⟩
      · exact ⟨[z], e5, rfl, st2, xG.trans x02, pl.ex x02, nm2, rfl⟩
      · rintro j σ G3 hj ⟨ms, e5, rfl, st3, x3, pl3, nm3, hms⟩
        have hjl : j < ms.length := by omega
        have hz := nm3.get hjl
        have hm := map_at hjl
        have hsz : (ms.map V.int).length < sizeLine := smallLt (by rw [List.length_map]; omega)
        have h3 := nm3.at_
        have tail : ∀ (G4 : Hp) (y : Int), Ex S G3 G4 → Strm S L ns G4 → -(10 ^ 18) < y → y < 10 ^ 18 → Strm S L ns (upd G4 q (.lst (ms.map V.int ++ [.int y]))) ∧ Ex S H (upd G4 q (.lst (ms.map V.int ++ [.int y]))) ∧ Pool S (upd G4 q (.lst (ms.map V.int ++ [.int y]))) p qs ∧ Nums S (upd G4 q (.lst (ms.map V.int ++ [.int y]))) q (ms ++ [y]) ∧ (ms ++ [y]).length = j + 1 + 1 := by
          intro G4 y x4 st4 y0 y1
          refine ⟨st4.upd nqS nqL, Ex.mut (x3.trans x4) hqH, ?_, (nm3.ex x4).app (by omega) y0 y1, by simp [hms]⟩
          have pl4 := pl3.ex x4
          exact ⟨(upd_ne nqp.symm).trans pl4.at_, pl4.ne, fun x hx => by
            obtain ⟨us, a, b⟩ := pl4.each x hx
            exact ⟨us, ⟨(upd_ne (hqx x hx)).trans a.at_, a.ne, a.len, a.bd⟩, b⟩⟩
        rw [Int.zero_add]
        walk_at "rd"
        refine r_ixL (sql h3) (atI_nat hm) ?_
        have els : ∀ G4, Ex S G3 G4 → Strm S L ns G4 → ∃ (y : Int) (G5 : Hp), True := fun _ _ _ => ⟨0, G3, trivial⟩
        generalize ms[j] = y at hz hm
        walk_at "rd"
        refine i_d (fun hy => ?_) (fun hy => ?_)
        · walk_at "rd"
          refine use_draw st3 (by decide) (by decide) (fun d G4 d0 d1 x4 st4 => ?_)
          have h4 := (nm3.ex x4).at_
          walk_at "rd"
          refine i_d (fun hd => ?_) (fun hd => ?_)
          · walk_at "rd"
            refine r_ixL (sql h4) (atI_nat hm) ?_
            walk_at "rd"
            refine use_draw st4 (by decide) (by decide) (fun d' G5 d0' d1' x5 st5 => ?_)
            have h5 := (nm3.ex (x4.trans x5)).at_
            walk_at "rd"
            obtain ⟨t1, t2, t3, t4, t5⟩ := tail G5 (y + d') (x4.trans x5) st5 (by omega) (by omega)
            exact ⟨ms ++ [y + d'], some (.int (j : Int)), rfl, t1, t2, t3, t4, t5⟩
          · walk_at "rd"
            refine use_number st4 (by decide) (by decide) (fun d' G5 d0' d1' x5 st5 => ?_)
            have h5 := (nm3.ex (x4.trans x5)).at_
            walk_at "rd"
            obtain ⟨t1, t2, t3, t4, t5⟩ := tail G5 d' (x4.trans x5) st5 (by omega) (by omega)
            exact ⟨ms ++ [d'], some (.int (j : Int)), rfl, t1, t2, t3, t4, t5⟩
        · walk_at "rd"
          refine use_number st3 (by decide) (by decide) (fun d' G5 d0' d1' x5 st5 => ?_)
          have h5 := (nm3.ex x5).at_
          walk_at "rd"
          obtain ⟨t1, t2, t3, t4, t5⟩ := tail G5 d' x5 st5 (by omega) (by omega)
          exact ⟨ms ++ [d'], some (.int (j : Int)), rfl, t1, t2, t3, t4, t5⟩
      · rintro σ G3 ⟨ms, e5, rfl, st3, x3, pl3, nm3, hms⟩
        have hp3 := pl3.at_
        have hsz : (qs.map V.ref).length < sizeLine := smallLt (by rw [List.length_map]; omega)
        walk_at "rd"
        exact ⟨qs ++ [q], some (.int (0 + (i : Int))), some (.ref q), e5, rfl, st3.upd npS npL, Ex.mut x3 hp, pl3.app nm3 (by omega) nqp hqp, by simp [hlen], fun x hx => by
          rcases List.mem_append.mp hx with hx | hx
          · exact hqp x hx
          · rw [List.mem_singleton] at hx
            subst hx
            exact nqp⟩
    · rintro σ G ⟨qs, e3, e4, e5, rfl, stG, xG, pl, hlen, _⟩
      walk_at "rd"
      exact k p qs G hp xG stG pl hlen
end

end Tac1
section Tac2
/-! ### the words: "rd" goes on as far as it can; "hp" finds what stands at an address; "t" "f" a test that is known -/
local macro_rules | `(tactic| walk_at "h0") => `(tactic| first | assumption | exact upd_same)
local macro_rules | `(tactic| walk_at "n0") => `(tactic| first
  | assumption | (apply Ne.symm; assumption) | exact ne_nn (by assumption) (by walk_at "h0") | exact ne_nn' (by assumption) (by walk_at "h0"))
local macro_rules | `(tactic| walk_at "hq") => `(tactic| first
  | assumption | exact upd_same | exact (upd_ne (by walk_at "n0")).trans (by walk_at "hq"))
local macro_rules | `(tactic| walk_at "ne") => `(tactic| first
  | assumption | (apply Ne.symm; assumption) | exact ne_nn (by assumption) (by walk_at "hq") | exact ne_nn' (by assumption) (by walk_at "hq"))
local macro_rules | `(tactic| walk_at "hp") => `(tactic| first
  | assumption
  | exact upd_same
  | exact (upd_ne (by walk_at "ne")).trans (by walk_at "hp")
  | exact same_at (by assumption) (by walk_at "hp")
  | exact ex_at (by assumption) (by walk_at "ne") (by walk_at "hp"))
local macro_rules | `(tactic| walk_at "sm") => `(tactic| first
  | assumption
  | exact Same.refl _
  | exact same_new (by walk_at "sm") (by assumption)
  | exact same_mut (by walk_at "sm") (by assumption))
local macro_rules | `(tactic| walk_at "ex") => `(tactic| first
  | assumption
  | exact Ex.refl _ _
  | exact Ex.new (by walk_at "ex") (by assumption)
  | exact Ex.mut (by walk_at "ex") (by assumption)
  | exact Ex.at (by walk_at "ex"))
local macro_rules | `(tactic| walk_at "sa") => `(tactic| first
  | assumption
  | exact seq' (by assumption) (by walk_at "sm")
  | exact tup' (by assumption) (by walk_at "sm"))
local macro_rules | `(tactic| walk_at "sq") => `(tactic| first
  | assumption
  | exact seq' (by assumption) (by walk_at "sm")
  | exact tup' (by assumption) (by walk_at "sm")
  | exact sql (by walk_at "hp")
  | exact sqt (by walk_at "hp"))
local macro_rules | `(tactic| walk_at "tt") => `(tactic| first | (simp; done) | (simp; omega))
local macro_rules | `(tactic| walk_at "tf") => `(tactic| first
  | ((with_reducible show if _ = true then _ else _); refine i_T (by walk_at "tt") ?_)
  | ((with_reducible show if _ = true then _ else _); refine i_F (by walk_at "tt") ?_))
local macro_rules | `(tactic| walk_at "ix") => `(tactic| first
  | exact ixn (j := 0) (by simp)
  | exact ixn (j := 1) (by simp)
  | exact ixn (j := 2) (by simp)
  | exact ixn (j := 3) (by simp)
  | exact ixn (j := 4) (by simp)
  | exact ixn (j := 5) (by simp)
  | exact ixn (j := 6) (by simp)
  | exact ixn (j := 7) (by simp))
local macro_rules | `(tactic| walk_at "at") => `(tactic| first
  | exact atI_nat (j := 0) (by rfl)
  | exact atI_nat (j := 1) (by rfl)
  | exact atI_nat (j := 2) (by rfl)
  | exact atI_nat (j := 3) (by rfl)
  | exact atI_nat (j := 4) (by rfl)
  | exact atI_nat (j := 5) (by rfl)
  | exact atI_nat (j := 6) (by rfl)
  | exact atI_nat (j := 7) (by rfl))
local macro_rules | `(tactic| walk_at "rd1") => `(tactic| first
  | with_reducible refine c_seq ?_
  | with_reducible refine c_asg ?_
  | ((with_reducible refine c_gname ?_); try dsimp only [List.set])
  | with_reducible refine c_ret ?_
  | with_reducible refine c_ifs ?_
  | ((with_reducible show tVar _ _ _ _); refine c_var (by rfl) ?_)
  | with_reducible refine c_c ?_
  | with_reducible refine c_op ?_
  | with_reducible refine c_un ?_
  | with_reducible refine c_test ?_
  | with_reducible refine c_B ?_
  | with_reducible refine c_CB ?_
  | with_reducible refine c_cons ?_
  | with_reducible refine c_nil ?_
  | with_reducible refine c_call ?_
  | with_reducible refine c_lst ?_
  | with_reducible refine c_tup ?_
  | with_reducible refine c_drop ?_
  | with_reducible refine c_gsub ?_
  | with_reducible refine c_BM ?_
  | with_reducible refine c_BM0 ?_
  | with_reducible refine c_and ?_
  | with_reducible refine c_or ?_
  | with_reducible refine c_not ?_
  | with_reducible refine c_andV ?_
  | with_reducible refine c_orV ?_
  | with_reducible refine c_notV ?_
  | with_reducible refine c_if ?_
  | with_reducible refine c_chain ?_
  | with_reducible refine c_next ?_
  | with_reducible refine c_retN ?_
  | with_reducible refine c_yes ?_
  | ((with_reducible show rIn _ _ (V.bl _) _ _ _); first | refine r_inL (by walk_at "sq") rfl (flat_bl _) ?_ | refine r_inL (by walk_at "sq") rfl (by rfl) ?_)
  | with_reducible refine r_I0 ?_
  | with_reducible refine r_U ?_
  | with_reducible refine r_eqI ?_
  | with_reducible refine r_neI ?_
  | with_reducible refine r_eqB ?_
  | with_reducible refine r_neB ?_
  | with_reducible refine r_eqS ?_
  | with_reducible refine r_neS ?_
  | ((with_reducible show rIxL _ _ (V.int (OfNat.ofNat _)) _ _); refine r_ixL (by walk_at "sq") (by walk_at "at") ?_)
  | ((with_reducible show rIxT _ _ (V.int (OfNat.ofNat _)) _ _); refine r_ixT (by walk_at "sq") (by walk_at "at") ?_)
  | ((with_reducible show rI CMul _ _ _ _ _); refine r_I (by first | exact .inl ⟨by omega, by omega⟩ | exact .inr ⟨by omega, by omega⟩) ?_)
  | ((with_reducible show rI CDiv _ _ _ _ _); refine r_I ⟨by omega, by omega⟩ ?_)
  | ((with_reducible show rI (fun _ _ => _) _ _ _ _ _); refine r_I (by first | assumption | omega | decide) ?_)
  | with_reducible refine r_pow18 ?_
  | with_reducible refine r_pow17 ?_
  | ((with_reducible show rSetL _ _ _ _ _); refine r_setL (by walk_at "hp") (by walk_at "ix") ?_; try dsimp only [List.set]; try simp only [upd_upd])
  | ((with_reducible show tyV _ _ _ _ ∧ _); refine ⟨.inl ⟨rfl, _, by walk_at "sq"⟩, ?_⟩)
  | ((with_reducible show rPop _ _ _ _); refine r_pop (by walk_at "hp") ?_)
  | ((with_reducible show rAppend _ _ _ _); refine r_app (by walk_at "hp") (by first | assumption | exact smallLt (by omega) | exact smallLt (by simp <;> omega)) ?_)
  | ((with_reducible show _ ≤ sizeLine ∧ _); refine ⟨small (by simp), ?_⟩)
  | ((with_reducible show V.non = V.non ∧ _); refine ⟨rfl, ?_⟩)
  | with_reducible refine iteT ?_
  | with_reducible refine iteF ?_
  | with_reducible refine ⟨_, rfl, ?_⟩
  | with_reducible refine ⟨_, _, rfl, ?_⟩
  | with_reducible refine Or.inl ⟨_, rfl, ?_⟩
  | with_reducible refine Or.inr ⟨_, rfl, ?_⟩
  | ((with_reducible show ∃ _ _, [_] = [_] ∧ _); first
    | refine ⟨_, _, rfl, Or.inl (by walk_at "sa"), ?_⟩ | refine ⟨_, _, rfl, Or.inr (by walk_at "sa"), ?_⟩
    | refine ⟨_, _, rfl, Or.inl (by exact sql (by walk_at "hp")), ?_⟩ | refine ⟨_, _, rfl, Or.inr (by exact sqt (by walk_at "hp")), ?_⟩))
local macro_rules | `(tactic| walk_at "nw") => `(tactic| (intro _ _))
local macro_rules | `(tactic| walk_at "rdn") => `(tactic| repeat (first | walk_at "rd1" | ((with_reducible show ∀ _ : Addr, _ = none → _); intro _ _)))
local macro_rules | `(tactic| walk_at "rd") => `(tactic| repeat walk_at "rd1")

local macro_rules | `(tactic| walk_at "tp") => `(tactic| first
  | (with_reducible assumption)
  | with_reducible exact Tp.refl _
  | exact Tp.same (by walk_at "sm")
  | exact Tp.new (by walk_at "tp") (by with_reducible assumption)
  | exact Tp.lst (by walk_at "tp") (by walk_at "hp"))
local macro_rules | `(tactic| walk_at "rd1") => `(tactic| first
  | with_reducible refine c_sl ?_
  | with_reducible refine c_noPart ?_
  | with_reducible refine c_part ?_
  | ((with_reducible show rSlL _ _ _ _ _ _); refine r_slL (by walk_at "sq") ?_))
local macro_rules | `(tactic| walk_at "no") => `(tactic| ((with_reducible show if decide _ = true then _ else _); refine i_F (decide_eq_false (by decide +kernel)) ?_))
local macro_rules | `(tactic| walk_at "yes") => `(tactic| ((with_reducible show if decide _ = true then _ else _); refine i_T (decide_eq_true (by first | rfl | decide +kernel)) ?_))
local macro_rules | `(tactic| walk_at "wd") => `(tactic| repeat (first | walk_at "rd1" | walk_at "no" | walk_at "yes"))

/-! ### leaves, recipes, what they build -/
def spLeaf : Sp := fun vs H Q _ => ∃ (S L : Addr) (ns : List Int) (p : Addr) (qs : List Addr), vs = [.ref S, .ref p] ∧ Strm S L ns H ∧ Pool S H p qs ∧ 0 < qs.length ∧ qs.length ≤ 3 ∧
  ∀ (a : Addr) (s : Stp) H', Ex S H H' → Strm S L ns H' → H' a = some (.tup s.vals) → s.ok qs.length → s.need = 0 → Q (.ref a) H'
def spRecipe : Sp := fun vs H Q _ => ∃ (S L : Addr) (ns : List Int) (p : Addr) (qs : List Addr) (m : Int), vs = [.ref S, .ref p, .int m] ∧ Strm S L ns H ∧ Pool S H p qs ∧ 0 < qs.length ∧ qs.length ≤ 3 ∧ 0 < m ∧ m ≤ 1000 ∧
  ∀ q xs ss H', H q = none → Ex S H H' → Strm S L ns H' → H' q = some (.lst xs) → Stps qs.length H' xs ss → Valid ss → (exs ss).length = 1 → (ss.length : Int) ≤ m → Q (.ref q) H'
def spBuilt (K : PySem.W.Frag) : Sp := fun vs H Q _ => ∃ (q : Addr) (xs : List V) (ss : List Stp) (w : Nat), vs = [.ref q] ∧ SqL K H q xs ∧ Stps w H xs ss ∧ Valid ss ∧ (exs ss).length = 1 ∧ ss.length ≤ 1000 ∧
  ∀ v t m H', Same H H' → exs ss = [t] → PTr K w H' v t m → m ≤ ss.length → Q v H'
theorem pick6 {e : Int} (h0 : 0 ≤ e) (h1 : e < 6) : ∃ s : Str, atI [V.str "<", .str "<=", .str "=", .str "!=", .str ">=", .str ">"] e = some (.str s) ∧ s ∈ signs := by
  have : e = 0 ∨ e = 1 ∨ e = 2 ∨ e = 3 ∨ e = 4 ∨ e = 5 := by omega
  rcases this with rfl | rfl | rfl | rfl | rfl | rfl
  · exact ⟨"<", atI_nat (j := 0) rfl, by simp [signs]⟩
  · exact ⟨"<=", atI_nat (j := 1) rfl, by simp [signs]⟩
  · exact ⟨"=", atI_nat (j := 2) rfl, by simp [signs]⟩
  · exact ⟨"!=", atI_nat (j := 3) rfl, by simp [signs]⟩
  · exact ⟨">=", atI_nat (j := 4) rfl, by simp [signs]⟩
  · exact ⟨">", atI_nat (j := 5) rfl, by simp [signs]⟩
theorem pickJ {e : Int} (h0 : 0 ≤ e) (h1 : e < 2) : ∃ b : Bool, atI [V.str "both", .str "either"] e = some (.str (jw b)) := by
  have : e = 0 ∨ e = 1 := by omega
  rcases this with rfl | rfl
  · exact ⟨false, atI_nat (j := 0) rfl⟩
  · exact ⟨true, atI_nat (j := 1) rfl⟩
theorem pickN {e : Int} (h0 : 0 ≤ e) (h1 : e < 2) : ∃ (s : Stp) (x : Str), atI [V.str "negation", .str "untrue"] e = some (.str x) ∧ s.vals = [.str x] ∧ (s = .neg ∨ s = .unt) := by
  have : e = 0 ∨ e = 1 := by omega
  rcases this with rfl | rfl
  · exact ⟨.neg, _, atI_nat (j := 0) rfl, rfl, .inl rfl⟩
  · exact ⟨.unt, _, atI_nat (j := 1) rfl, rfl, .inr rfl⟩
theorem need_u {s : Stp} (h : s = .neg ∨ s = .unt) : s.need = 1 := by
  rcases h with rfl | rfl <;> rfl
theorem ok_u {w : Nat} {s : Stp} (h : s = .neg ∨ s = .unt) : s.ok w := by
  rcases h with rfl | rfl <;> trivial
theorem len_u {ts : List Tr} {s : Stp} (h : s = .neg ∨ s = .unt) (hl : 1 ≤ ts.length) : (ex1 ts s).length = ts.length := by
  obtain ⟨us, t, rfl⟩ := snocT hl
  rcases h with rfl | rfl
  · rw [ex1_neg]
    simp
  · rw [ex1_unt]
    simp
theorem len_0 {ts : List Tr} {s : Stp} (h : s.need = 0) : (ex1 ts s).length = ts.length + 1 := by
  cases s with
  | cmp => simp [ex1]
  | mis => simp [ex1]
  | neg => simp [Stp.need] at h
  | unt => simp [Stp.need] at h
  | jn e k =>
    simp only [Stp.need] at h
    subst h
    simp [ex1]
theorem len_j {ts : List Tr} {e : Bool} {k : Nat} (h : k ≤ ts.length) : (ex1 ts (.jn e k)).length = ts.length + 1 - k := by
  simp [ex1]
  omega
section
variable {P : Program} {w : World} {K : PySem.W.Frag} {mg : Str → Option Value} {base : Heap}
theorem ok_leaf (T : Txt K mg) : FnOk P w K mg base CX0 3 T.a_leaf T.d_leaf ["_law_stream_here", "_law_pool_here"] (spLeaf) := by
  refine T.F_leaf.ok sc__law_leaf (fun vs H Q E h => ?_) (fun cdv A outer s H vs Q E hr h => ⟨_, (pss_cons (ps_set (i := 2) sc__law_leaf.nd rfl (.inl rfl) (pe_call (ok_draw T) (hr.mono (by decide)) (by rfl) T.g_draw T.F_draw.kp T.b_draw .nil pass0 (pa_cons (pv 0) (pa_cons pe_int pa_nil))))
      (pss_cons (ps_if (pt_cmpR op_eq (pv 2) pe_int (nomark _))
      (pss_one (ps_ret (pe_tup (pa_cons (pe_ix ix_list (pe_lst (pa_cons pe_str (pa_cons pe_str pa_nil))) (pe_call (ok_draw T) (hr.mono (by decide)) (by rfl) T.g_draw T.F_draw.kp T.b_draw .nil pass0 (pa_cons (pv 0) (pa_cons pe_int pa_nil))) (fun _ _ => rfl)) (pa_cons pe_int pa_nil)))))
      pss_nil)
      (pss_cons (ps_set (i := 3) sc__law_leaf.nd rfl (.inl rfl) (pe_call (ok_draw T) (hr.mono (by decide)) (by rfl) T.g_draw T.F_draw.kp T.b_draw .nil pass0 (pa_cons (pv 0) (pa_cons (pe_callB call_len_seq (by rfl) T.z_len PySem.boot_len (pa_cons (pv 1) pa_nil)) pa_nil))))
      (pss_cons (ps_if (pt_cmpR op_eq (pv 2) pe_int (nomark _))
      (pss_one (ps_ret (pe_tup (pa_cons pe_str (pa_cons (pv 3) pa_nil)))))
      pss_nil)
      (pss_cons (ps_set (i := 4) sc__law_leaf.nd rfl (.inl rfl) (pe_ix ix_list (pe_lst (pa_cons pe_str (pa_cons pe_str (pa_cons pe_str (pa_cons pe_str (pa_cons pe_str (pa_cons pe_str pa_nil))))))) (pe_call (ok_draw T) (hr.mono (by decide)) (by rfl) T.g_draw T.F_draw.kp T.b_draw .nil pass0 (pa_cons (pv 0) (pa_cons pe_int pa_nil))) (fun _ _ => rfl)))
      (pss_one (ps_ret (pe_tup (pa_cons (pv 4) (pa_cons (pv 3) (pa_cons (pe_ix ix_list (pe_ix ix_list (pv 1) (pv 3) (fun _ _ => rfl)) (pe_call (ok_draw T) (hr.mono (by decide)) (by rfl) T.g_draw T.F_draw.kp T.b_draw .nil pass0 (pa_cons (pv 0) (pa_cons (pe_callB call_len_seq (by rfl) T.z_len PySem.boot_len (pa_cons (pe_ix ix_list (pv 1) (pv 3) (fun _ _ => rfl)) pa_nil)) pa_nil))) (fun _ _ => rfl)) pa_nil))))))))))), ?_⟩)
  · first | (obtain ⟨rfl, _⟩ := h; rfl) | (obtain ⟨_, rfl, _⟩ := h; rfl) | (obtain ⟨_, _, rfl, _⟩ := h; rfl) | (obtain ⟨_, _, _, rfl, _⟩ := h; rfl) | (obtain ⟨_, _, _, _, rfl, _⟩ := h; rfl) | (obtain ⟨_, _, _, _, _, rfl, _⟩ := h; rfl) | (obtain ⟨_, _, _, _, _, _, rfl, _⟩ := h; rfl) | (obtain ⟨_, _, _, _, _, _, _, rfl, _⟩ := h; rfl) | (obtain ⟨_, _, _, _, _, _, _, _, rfl, _⟩ := h; rfl) | (obtain ⟨_, _, _, _, _, _, _, _, _, rfl, _⟩ := h; rfl) | (obtain ⟨_, _, _, _, _, _, _, _, _, _, rfl, _⟩ := h; rfl) | (obtain ⟨_, _, _, _, _, _, _, _, _, _, _, rfl, _⟩ := h; rfl) | (obtain ⟨_, _, _, _, _, _, _, _, _, _, _, _, rfl, _⟩ := h; rfl) | (obtain ⟨_, _, _, _, _, _, _, _, _, _, _, _, _, rfl, _⟩ := h; rfl) | (obtain ⟨_, _, _, _, _, _, _, _, _, _, _, _, _, _, rfl, _⟩ := h; rfl)
  · obtain ⟨S, L, ns, p, qs, rfl, st, pl, q0, q3, k⟩ := h
    try dsimp only [cxOf, Cx.nox, Cx.wish]
    refine st_of (σ := [some _, some _, none, none, none]) rfl ?_
    walk_at "rd"
    refine use_draw st (by decide) (by decide) (fun kd H1 k0 k1 x1 st1 => ?_)
    have pl1 := pl.ex x1
    have hp1 := pl1.at_
    walk_at "rd"
    refine i_d (fun hk => ?_) (fun hk => ?_)
    · walk_at "rd"
      intro y hy
      walk_at "rd"
      refine use_draw (st1.new hy) (by decide) (by decide) (fun e H2 e0 e1 x2 st2 => ?_)
      have hy2 := x2 _ _ (st1.neS hy) upd_same
      obtain ⟨b, hb⟩ := pickJ e0 e1
      walk_at "rd"
      refine r_ixL (sql hy2) hb ?_
      walk_at "rd"
      intro a ha
      exact k a (.jn b 0) _ (Ex.new ((x1.trans (Ex.new (Ex.refl _ _) hy)).trans x2) ha) (st2.new ha) upd_same trivial rfl
    · walk_at "rd"
      refine use_draw st1 (by rw [List.length_map]; omega) (by rw [List.length_map]; omega) (fun c H2 c0 c1 x2 st2 => ?_)
      rw [List.length_map] at c1
      have pl2 := pl1.ex x2
      have hp2 := pl2.at_
      obtain ⟨cn, rfl⟩ : ∃ cn : Nat, c = (cn : Int) := ⟨c.toNat, by omega⟩
      have hcn : cn < qs.length := by omega
      walk_at "rd"
      refine i_d (fun hk => ?_) (fun hk => ?_)
      · walk_at "rd"
        intro a ha
        exact k a (.mis cn) _ (Ex.new (x1.trans x2) ha) (st2.new ha) upd_same hcn rfl
      · walk_at "rd"
        intro y hy
        walk_at "rd"
        refine use_draw (st2.new hy) (by decide) (by decide) (fun e H3 e0 e1 x3 st3 => ?_)
        have hy3 := x3 _ _ (st2.neS hy) upd_same
        obtain ⟨sg, hsg, hin⟩ := pick6 e0 e1
        have x23 := (Ex.new (Ex.refl _ _) hy).trans x3
        have pl3 := pl2.ex x23
        have hp3 := pl3.at_
        walk_at "rd"
        refine r_ixL (sql hy3) hsg ?_
        walk_at "rd"
        have hq : (qs.map V.ref)[cn]? = some (.ref qs[cn]) := by
          rw [List.getElem?_map, List.getElem?_eq_getElem hcn]
          rfl
        refine r_ixL (sql hp3) (atI_nat hq) ?_
        walk_at "rd"
        refine r_ixL (sql hp3) (atI_nat hq) ?_
        obtain ⟨ms, nm, m0⟩ := pl3.each _ (List.getElem_mem hcn)
        have hms := nm.at_
        have hm8 := nm.len
        walk_at "rd"
        refine use_draw st3 (by rw [List.length_map]; omega) (by rw [List.length_map]; omega) (fun d H4 d0 d1 x4 st4 => ?_)
        rw [List.length_map] at d1
        have hdl : d.toNat < ms.length := by omega
        have hz := (nm.ex x4).get hdl
        have hms4 := (nm.ex x4).at_
        walk_at "rd"
        refine r_ixL (sql hms4) (at_of (j := d.toNat) (by omega) (map_at hdl)) ?_
        walk_at "rd"
        intro a ha
        exact k a (.cmp sg cn ms[d.toNat]) _ (Ex.new (((x1.trans x2).trans x23).trans x4) ha) (st4.new ha) upd_same ⟨hin, hcn, hz.1, hz.2⟩ rfl
theorem ok_recipe (T : Txt K mg) : FnOk P w K mg base CX0 4 T.a_recipe T.d_recipe ["_law_stream_here", "_law_pool_here", "_law_most"] (spRecipe) := by
  refine T.F_recipe.ok sc__law_recipe (fun vs H Q E h => ?_) (fun cdv A outer s H vs Q E hr h => ⟨_, (pss_cons (ps_set (i := 3) sc__law_recipe.nd rfl (.inl rfl) (pe_lst pa_nil))
      (pss_cons (ps_set (i := 4) sc__law_recipe.nd rfl (.inl rfl) pe_int)
      (pss_cons (ps_set (i := 5) sc__law_recipe.nd rfl (.inl rfl) (pe_op op_add pe_int (pe_call (ok_draw T) (hr.mono (by decide)) (by rfl) T.g_draw T.F_draw.kp T.b_draw .nil pass0 (pa_cons (pv 0) (pa_cons (pv 2) pa_nil)))))
      (pss_cons (ps_for PassesOwn.never rfl (pi_range1 (by rfl) T.z_range (pa_cons (pv 5) pa_nil)) (pg_name (i := 6) sc__law_recipe.nd rfl (.inl rfl))
      (pss_cons (ps_set (i := 7) sc__law_recipe.nd rfl (.inl rfl) (pe_call (ok_draw T) (hr.mono (by decide)) (by rfl) T.g_draw T.F_draw.kp T.b_draw .nil pass0 (pa_cons (pv 0) (pa_cons pe_int pa_nil))))
      (pss_cons (ps_set (i := 8) sc__law_recipe.nd rfl (.inl rfl) (pv 4))
      (Evl.pss_cut (ps_if (pt_cmpR op_lt (pe_op op_add (pv 6) pe_int) (pv 5) (nomark _))
      (pss_one (ps_set (i := 8) sc__law_recipe.nd rfl (.inl rfl) (pe_call (ok_draw T) (hr.mono (by decide)) (by rfl) T.g_draw T.F_draw.kp T.b_draw .nil pass0 (pa_cons (pv 0) (pa_cons (pe_op op_add (pv 4) pe_int) pa_nil)))))
      pss_nil)
      (pss_one (ps_if (pt_mid (PW.pt (pw_or (pt_cmpR op_eq (pv 4) pe_int (nomark _)) (pw_or1 (PW.pt (pw_and (pt_cmpR op_lt (pv 7) pe_int (nomark _)) (pw_and1 (pt_cmpR op_lt (pe_op op_add (pv 6) pe_int) (pv 5) (nomark _)))))))))
      (pss_cons (ps_expr (pe_bm PySem.F.plainAttrs_list PySem.F.slot_list_append PySem.F.type_list_append mt_append (pv 3) (pa_cons (pe_call (ok_leaf T) (hr.mono (by decide)) (by rfl) T.g_leaf T.F_leaf.kp T.b_leaf .nil pass0 (pa_cons (pv 0) (pa_cons (pv 1) pa_nil))) pa_nil)))
      (pss_one (ps_set (i := 4) sc__law_recipe.nd rfl (.inl rfl) (pe_op op_add (pv 4) pe_int))))
      (pss_one (ps_if (pt_mid (PW.pt (pw_and (pt_cmpR op_lt (pv 7) pe_int (nomark _)) (pw_and1 (PW.pt (pw_or (pt_cmpR op_lt (pe_op op_add (pv 6) pe_int) (pv 5) (nomark _)) (pw_or1 (pt_cmpR op_eq (pv 4) pe_int (nomark _)))))))))
      (pss_one (ps_expr (pe_bm PySem.F.plainAttrs_list PySem.F.slot_list_append PySem.F.type_list_append mt_append (pv 3) (pa_cons (pe_tup (pa_cons (pe_ix ix_list (pe_lst (pa_cons pe_str (pa_cons pe_str pa_nil))) (pe_op op_mod (pe_callTy call_int1 (by rfl) T.z_int (by decide +kernel) (pa_cons (pv 7) pa_nil)) pe_int) (fun _ _ => rfl)) pa_nil)) pa_nil))))
      (pss_cons (ps_expr (pe_bm PySem.F.plainAttrs_list PySem.F.slot_list_append PySem.F.type_list_append mt_append (pv 3) (pa_cons (pe_tup (pa_cons (pe_ix ix_list (pe_lst (pa_cons pe_str (pa_cons pe_str pa_nil))) (pe_op op_mod (pe_callTy call_int1 (by rfl) T.z_int (by decide +kernel) (pa_cons (pv 7) pa_nil)) pe_int) (fun _ _ => rfl)) (pa_cons (pv 8) pa_nil))) pa_nil)))
      (pss_one (ps_set (i := 4) sc__law_recipe.nd rfl (.inl rfl) (pe_op op_sub (pe_op op_add (pv 4) pe_int) (pv 8)))))))))))))
      (pss_one (ps_ret (pv 3))))))), ?_⟩)
  · first | (obtain ⟨rfl, _⟩ := h; rfl) | (obtain ⟨_, rfl, _⟩ := h; rfl) | (obtain ⟨_, _, rfl, _⟩ := h; rfl) | (obtain ⟨_, _, _, rfl, _⟩ := h; rfl) | (obtain ⟨_, _, _, _, rfl, _⟩ := h; rfl) | (obtain ⟨_, _, _, _, _, rfl, _⟩ := h; rfl) | (obtain ⟨_, _, _, _, _, _, rfl, _⟩ := h; rfl) | (obtain ⟨_, _, _, _, _, _, _, rfl, _⟩ := h; rfl) | (obtain ⟨_, _, _, _, _, _, _, _, rfl, _⟩ := h; rfl) | (obtain ⟨_, _, _, _, _, _, _, _, _, rfl, _⟩ := h; rfl) | (obtain ⟨_, _, _, _, _, _, _, _, _, _, rfl, _⟩ := h; rfl) | (obtain ⟨_, _, _, _, _, _, _, _, _, _, _, rfl, _⟩ := h; rfl) | (obtain ⟨_, _, _, _, _, _, _, _, _, _, _, _, rfl, _⟩ := h; rfl) | (obtain ⟨_, _, _, _, _, _, _, _, _, _, _, _, _, rfl, _⟩ := h; rfl) | (obtain ⟨_, _, _, _, _, _, _, _, _, _, _, _, _, _, rfl, _⟩ := h; rfl)
  · obtain ⟨S, L, ns, p, qs, m, rfl, st, pl, q0, q3, m0, m1, k⟩ := h
    try dsimp only [cxOf, Cx.nox, Cx.wish]
    refine st_of (σ := [some _, some _, some _, none, none, none, none, none, none]) rfl ?_
    walk_at "rd"
    intro q hq
    have nqS := st.neS hq
    have nqL := st.neL hq
    walk_at "rd"
    refine use_draw (st.new hq) (by omega) (by omega) (fun r H1 r0 r1 x1 st1 => ?_)
    obtain ⟨N, hN⟩ : ∃ N : Nat, 1 + r = (N : Int) := ⟨(1 + r).toNat, by omega⟩
    have hq1 := x1 _ _ nqS upd_same
    have x01 : Ex S H H1 := (Ex.new (Ex.refl _ _) hq).trans x1
    walk_at "rd"
    rw [hN]
    with_reducible refine c_rng1 ?_
    walk_at "rd"
    refine ⟨by omega, by omega, for_range (lo := 0) (n := N) (fun i σ G => ∃ (xs : List V) (ss : List Stp) (e6 e7 e8 : Option V), σ = [some (.ref S), some (.ref p), some (.int m), some (.ref q), some (.int ((exs ss).length : Int)), some (.int (N : Int)), e6, e7, e8] ∧
      Strm S L ns G ∧ Ex S H G ∧ G q = some (.lst xs) ∧ Stps qs.length G xs ss ∧ Valid ss ∧ ss.length = i ∧ (exs ss).length ≤ i ∧ (i = N → (exs ss).length = 1)) ?_ ?_ ?_⟩
    · exact ⟨[], [], none, none, none, rfl, st1, x01, hq1, .nil, .nil, rfl, Nat.zero_le _, fun h => by omega⟩
    · rintro i σ G hi ⟨xs, ss, e6, e7, e8, rfl, stG, xG, gq, sp, va, hlen, hd, _⟩
      have hxl : xs.length = i := by rw [sp.len, hlen]
      walk_at "rd"
      refine use_draw stG (by decide) (by decide) (fun kd G1 k0 k1 x1 st1 => ?_)
      walk_at "rd"
      refine ⟨fun σ' G' => ∃ many : Nat, σ' = [some (.ref S), some (.ref p), some (.int m), some (.ref q), some (.int ((exs ss).length : Int)), some (.int (N : Int)), some (.int (0 + (i : Int))), some (.int kd), some (.int (many : Int))] ∧
        Strm S L ns G' ∧ Ex S G G' ∧ many ≤ (exs ss).length ∧ (i + 1 = N → many = (exs ss).length), ?_, ?_⟩
      · walk_at "rd"
        refine i_d (fun hk => ?_) (fun hk => ?_)
        · walk_at "rd"
          refine use_draw st1 (by omega) (by omega) (fun d G2 d0 d1 x2 st2 => ?_)
          walk_at "rd"
          exact ⟨d.toNat, by rw [Int.toNat_of_nonneg d0], st2, x1.trans x2, by omega, fun h => by omega⟩
        · walk_at "rd"
          exact ⟨st1, x1, Nat.le_refl _, fun _ => rfl⟩
      · rintro σ' G2 ⟨many, rfl, st2, x2, hm1, hm2⟩
        have g2 := x2 _ _ nqS gq
        have tp2 : Tp G G2 := by
          obtain ⟨⟨_, _, _, e, _⟩, _⟩ := stG
          exact Tp.ex x2 e
        have sp2 := sp.keep tp2
        have fin : ∀ (G3 : Hp) (a : Addr) (s : Stp) (dp : Int), Ex S G2 G3 → Strm S L ns G3 → G3 a = some (.tup s.vals) → s.ok qs.length → s.need ≤ (exs ss).length → (ex1 (exs ss) s).length ≤ i + 1 → (i + 1 = N → (ex1 (exs ss) s).length = 1) → dp = ((ex1 (exs ss) s).length : Int) →
            ∃ (xs' : List V) (ss' : List Stp) (e6 e7 e8 : Option V), [some (V.ref S), some (V.ref p), some (V.int m), some (V.ref q), some (V.int dp), some (V.int (N : Int)), some (V.int (0 + (i : Int))), some (V.int kd), some (V.int (many : Int))] = [some (.ref S), some (.ref p), some (.int m), some (.ref q), some (.int ((exs ss').length : Int)), some (.int (N : Int)), e6, e7, e8] ∧
              Strm S L ns (upd G3 q (.lst (xs ++ [.ref a]))) ∧ Ex S H (upd G3 q (.lst (xs ++ [.ref a]))) ∧ (upd G3 q (.lst (xs ++ [.ref a]))) q = some (.lst xs') ∧ Stps qs.length (upd G3 q (.lst (xs ++ [.ref a]))) xs' ss' ∧ Valid ss' ∧ ss'.length = i + 1 ∧ (exs ss').length ≤ i + 1 ∧ (i + 1 = N → (exs ss').length = 1) := by
          intro G3 a s dp x3 st3 ha hs hn h1 h2 h3
          have g3 := x3 _ _ nqS g2
          have naq : a ≠ q := fun z => by
            subst z
            rw [ha] at g3
            cases Option.some.inj g3
          have tp3 : Tp G2 G3 := by
            obtain ⟨⟨_, _, _, e, _⟩, _⟩ := st2
            exact Tp.ex x3 e
          refine ⟨xs ++ [.ref a], ss ++ [s], some (.int (0 + (i : Int))), some (.int kd), some (.int (many : Int)), ?_, st3.upd nqS nqL, Ex.mut ((xG.trans x2).trans x3) hq, upd_same, (sp2.keep (Tp.lst tp3 g3)).snoc ((upd_ne naq).trans ha) hs, va.snoc hn, by simp [hlen], by rw [exs_snoc]; exact h1, fun h => by rw [exs_snoc]; exact h2 h⟩
          rw [exs_snoc, h3]
        have hsz : xs.length < sizeLine := smallLt (by omega)
        walk_at "rd"
        refine c_mid ((exs ss).length = 0 ∨ (kd < 4 ∧ i + 1 < N)) ?_ (fun hA => ?_) (fun hA => ?_)
        · walk_at "rd"
          refine i_d (fun hk => ?_) (fun hk => ?_)
          · exact ⟨rfl, (decide_eq_true (by omega)).symm⟩
          walk_at "rd"
          refine i_d (fun hk2 => ?_) (fun hk2 => ?_)
          · walk_at "rd"
            exact ⟨rfl, by congr 1; apply propext; omega⟩
          · walk_at "rd"
            exact ⟨rfl, (decide_eq_false (by omega)).symm⟩
        · walk_at "rd"
          refine ⟨S, L, ns, p, qs, rfl, st2, (pl.ex xG).ex x2, q0, q3, fun a s G3 x3 st3 ha hs h0 => ?_⟩
          have g3 := x3 _ _ nqS g2
          walk_at "rd"
          exact fin G3 a s _ x3 st3 ha hs (by omega) (by rw [len_0 h0]; omega) (fun h => by rw [len_0 h0]; omega) (by rw [len_0 h0]; omega)
        · walk_at "rd"
          refine c_mid (kd < 6 ∧ (i + 1 < N ∨ (exs ss).length = 1)) ?_ (fun hB => ?_) (fun hB => ?_)
          · walk_at "rd"
            refine i_d (fun hk => ?_) (fun hk => ?_)
            · walk_at "rd"
              refine i_d (fun hk2 => ?_) (fun hk2 => ?_)
              · exact ⟨rfl, (decide_eq_true (by omega)).symm⟩
              · walk_at "rd"
                exact ⟨rfl, by congr 1; apply propext; omega⟩
            · exact ⟨rfl, (decide_eq_false (by omega)).symm⟩
          · walk_at "rd"
            intro y hy
            obtain ⟨s, sx, hs, hv, hu⟩ := pickN (e := kd % 2) (by omega) (by omega)
            walk_at "rd"
            refine r_ixL (sql upd_same) hs ?_
            walk_at "rd"
            intro a ha
            walk_at "rd"
            have hn := need_u hu
            have hl := len_u (ts := exs ss) hu (by omega)
            refine fin _ a s _ (Ex.new (Ex.new (Ex.refl _ _) hy) ha) ((st2.new hy).new ha) ?_ (ok_u hu) (by omega) (by omega) (fun h => by omega) (by omega)
            rw [upd_same, hv]
          · walk_at "rd"
            intro y hy
            obtain ⟨b, hb⟩ := pickJ (e := kd % 2) (by omega) (by omega)
            walk_at "rd"
            refine r_ixL (sql upd_same) hb ?_
            walk_at "rd"
            intro a ha
            walk_at "rd"
            have hl := len_j (ts := exs ss) (e := b) hm1
            exact fin _ a (.jn b many) _ (Ex.new (Ex.new (Ex.refl _ _) hy) ha) ((st2.new hy).new ha) upd_same trivial hm1 (by omega) (fun h => by have := hm2 h; omega) (by omega)
    · rintro σ G ⟨xs, ss, e6, e7, e8, rfl, stG, xG, gq, sp, va, hlen, hd, h1⟩
      walk_at "rd"
      exact k q xs ss G hq xG stG gq sp va (h1 rfl) (by omega)
end

end Tac2
section Tac3
/-! ### the words: "rd" goes on as far as it can; "hp" finds what stands at an address; "t" "f" a test that is known -/
local macro_rules | `(tactic| walk_at "h0") => `(tactic| first | (with_reducible assumption) | with_reducible exact upd_same)
local macro_rules | `(tactic| walk_at "n0") => `(tactic| first
  | (with_reducible assumption) | (apply Ne.symm; with_reducible assumption) | exact ne_nn (by with_reducible assumption) (by walk_at "h0") | exact ne_nn' (by with_reducible assumption) (by walk_at "h0"))
local macro_rules | `(tactic| walk_at "hq") => `(tactic| first
  | (with_reducible assumption) | with_reducible exact upd_same | exact (upd_ne (by walk_at "n0")).trans (by walk_at "hq"))
local macro_rules | `(tactic| walk_at "ne") => `(tactic| first
  | (with_reducible assumption) | (apply Ne.symm; with_reducible assumption) | exact ne_nn (by with_reducible assumption) (by walk_at "hq") | exact ne_nn' (by with_reducible assumption) (by walk_at "hq"))
local macro_rules | `(tactic| walk_at "sm") => `(tactic| first
  | (with_reducible assumption)
  | with_reducible exact Same.refl _
  | exact same_new (by walk_at "sm") (by with_reducible assumption)
  | exact same_mut (by walk_at "sm") (by with_reducible assumption))
local macro_rules | `(tactic| walk_at "hp") => `(tactic| first
  | (with_reducible assumption)
  | with_reducible exact upd_same
  | exact new_at (by with_reducible assumption) (by walk_at "sm")
  | exact old_at (by with_reducible assumption) (by walk_at "sm")
  | exact (upd_ne (by walk_at "ne")).trans (by walk_at "hp")
  | exact same_at (by with_reducible assumption) (by walk_at "hp")
  | exact ex_at (by with_reducible assumption) (by walk_at "ne") (by walk_at "hp"))
local macro_rules | `(tactic| walk_at "ex") => `(tactic| first
  | (with_reducible assumption)
  | exact Ex.refl _ _
  | exact Ex.new (by walk_at "ex") (by with_reducible assumption)
  | exact Ex.mut (by walk_at "ex") (by with_reducible assumption)
  | exact Ex.at (by walk_at "ex"))
local macro_rules | `(tactic| walk_at "sa") => `(tactic| first
  | (with_reducible assumption)
  | exact seq' (by with_reducible assumption) (by walk_at "sm")
  | exact tup' (by with_reducible assumption) (by walk_at "sm"))
local macro_rules | `(tactic| walk_at "sq") => `(tactic| first
  | (with_reducible assumption)
  | exact seq' (by with_reducible assumption) (by walk_at "sm")
  | exact tup' (by with_reducible assumption) (by walk_at "sm")
  | exact sql (by walk_at "hp")
  | exact sqt (by walk_at "hp"))
local macro_rules | `(tactic| walk_at "tt") => `(tactic| first | (simp; done) | (simp; omega))
local macro_rules | `(tactic| walk_at "tf") => `(tactic| first
  | ((with_reducible show if _ = true then _ else _); refine i_T (by walk_at "tt") ?_)
  | ((with_reducible show if _ = true then _ else _); refine i_F (by walk_at "tt") ?_))
local macro_rules | `(tactic| walk_at "ix") => `(tactic| first
  | exact ixn (j := 0) (by simp)
  | exact ixn (j := 1) (by simp)
  | exact ixn (j := 2) (by simp)
  | exact ixn (j := 3) (by simp)
  | exact ixn (j := 4) (by simp)
  | exact ixn (j := 5) (by simp)
  | exact ixn (j := 6) (by simp)
  | exact ixn (j := 7) (by simp))
local macro_rules | `(tactic| walk_at "at") => `(tactic| first
  | exact atI_nat (j := 0) (by rfl)
  | exact atI_nat (j := 1) (by rfl)
  | exact atI_nat (j := 2) (by rfl)
  | exact atI_nat (j := 3) (by rfl)
  | exact atI_nat (j := 4) (by rfl)
  | exact atI_nat (j := 5) (by rfl)
  | exact atI_nat (j := 6) (by rfl)
  | exact atI_nat (j := 7) (by rfl))
local macro_rules | `(tactic| walk_at "rd1") => `(tactic| first
  | with_reducible refine c_seq ?_
  | with_reducible refine c_asg ?_
  | ((with_reducible refine c_gname ?_); try dsimp only [List.set])
  | with_reducible refine c_ret ?_
  | with_reducible refine c_ifs ?_
  | ((with_reducible show tVar _ _ _ _); refine c_var (by rfl) ?_)
  | with_reducible refine c_c ?_
  | with_reducible refine c_op ?_
  | with_reducible refine c_un ?_
  | with_reducible refine c_test ?_
  | with_reducible refine c_B ?_
  | with_reducible refine c_CB ?_
  | with_reducible refine c_cons ?_
  | with_reducible refine c_nil ?_
  | with_reducible refine c_call ?_
  | with_reducible refine c_lst ?_
  | with_reducible refine c_tup ?_
  | with_reducible refine c_drop ?_
  | with_reducible refine c_gsub ?_
  | with_reducible refine c_BM ?_
  | with_reducible refine c_BM0 ?_
  | with_reducible refine c_and ?_
  | with_reducible refine c_or ?_
  | with_reducible refine c_not ?_
  | with_reducible refine c_andV ?_
  | with_reducible refine c_orV ?_
  | with_reducible refine c_notV ?_
  | with_reducible refine c_if ?_
  | with_reducible refine c_chain ?_
  | with_reducible refine c_next ?_
  | with_reducible refine c_retN ?_
  | with_reducible refine c_yes ?_
  | ((with_reducible show rIn _ _ (V.bl _) _ _ _); first | refine r_inL (by walk_at "sq") rfl (flat_bl _) ?_ | refine r_inL (by walk_at "sq") rfl (by rfl) ?_)
  | with_reducible refine r_I0 ?_
  | with_reducible refine r_U ?_
  | with_reducible refine r_eqI ?_
  | with_reducible refine r_neI ?_
  | with_reducible refine r_eqB ?_
  | with_reducible refine r_neB ?_
  | with_reducible refine r_eqS ?_
  | with_reducible refine r_neS ?_
  | ((with_reducible show rIxL _ _ (V.int (OfNat.ofNat _)) _ _); refine r_ixL (by walk_at "sq") (by walk_at "at") ?_)
  | ((with_reducible show rIxT _ _ (V.int (OfNat.ofNat _)) _ _); refine r_ixT (by walk_at "sq") (by walk_at "at") ?_)
  | ((with_reducible show rI CMul _ _ _ _ _); refine r_I (by first | exact .inl ⟨by omega, by omega⟩ | exact .inr ⟨by omega, by omega⟩) ?_)
  | ((with_reducible show rI CDiv _ _ _ _ _); refine r_I ⟨by omega, by omega⟩ ?_)
  | ((with_reducible show rI (fun _ _ => _) _ _ _ _ _); refine r_I (by first | assumption | omega | decide) ?_)
  | with_reducible refine r_pow18 ?_
  | with_reducible refine r_pow17 ?_
  | ((with_reducible show rSetL _ _ _ _ _); refine r_setL (by walk_at "hp") (by walk_at "ix") ?_; try dsimp only [List.set]; try simp only [upd_upd])
  | ((with_reducible show tyV _ _ _ _ ∧ _); refine ⟨.inl ⟨rfl, _, by walk_at "sq"⟩, ?_⟩)
  | ((with_reducible show rPop _ _ _ _); refine r_pop (by walk_at "hp") ?_)
  | ((with_reducible show rAppend _ _ _ _); refine r_app (by walk_at "hp") (by first | assumption | exact smallLt (by omega) | exact smallLt (by simp <;> omega)) ?_)
  | ((with_reducible show _ ≤ sizeLine ∧ _); refine ⟨small (by simp), ?_⟩)
  | ((with_reducible show V.non = V.non ∧ _); refine ⟨rfl, ?_⟩)
  | with_reducible refine iteT ?_
  | with_reducible refine iteF ?_
  | with_reducible refine ⟨_, rfl, ?_⟩
  | with_reducible refine ⟨_, _, rfl, ?_⟩
  | with_reducible refine Or.inl ⟨_, rfl, ?_⟩
  | with_reducible refine Or.inr ⟨_, rfl, ?_⟩
  | ((with_reducible show ∃ _ _, [_] = [_] ∧ _); first
    | refine ⟨_, _, rfl, Or.inl (by walk_at "sa"), ?_⟩ | refine ⟨_, _, rfl, Or.inr (by walk_at "sa"), ?_⟩
    | refine ⟨_, _, rfl, Or.inl (by exact sql (by walk_at "hp")), ?_⟩ | refine ⟨_, _, rfl, Or.inr (by exact sqt (by walk_at "hp")), ?_⟩))
local macro_rules | `(tactic| walk_at "nw") => `(tactic| (intro _ _))
local macro_rules | `(tactic| walk_at "rdn") => `(tactic| repeat (first | walk_at "rd1" | ((with_reducible show ∀ _ : Addr, _ = none → _); intro _ _)))
local macro_rules | `(tactic| walk_at "rd") => `(tactic| repeat walk_at "rd1")

local macro_rules | `(tactic| walk_at "tp") => `(tactic| first
  | (with_reducible assumption)
  | with_reducible exact Tp.refl _
  | exact Tp.same (by walk_at "sm")
  | exact Tp.new (by walk_at "tp") (by with_reducible assumption)
  | exact Tp.lst (by walk_at "tp") (by walk_at "hp"))
local macro_rules | `(tactic| walk_at "rd1") => `(tactic| first
  | with_reducible refine c_sl ?_
  | with_reducible refine c_noPart ?_
  | with_reducible refine c_part ?_
  | ((with_reducible show rSlL _ _ _ _ _ _); refine r_slL (by walk_at "sq") ?_))
local macro_rules | `(tactic| walk_at "no") => `(tactic| ((with_reducible show if decide _ = true then _ else _); refine i_F (decide_eq_false (by decide +kernel)) ?_))
local macro_rules | `(tactic| walk_at "yes") => `(tactic| ((with_reducible show if decide _ = true then _ else _); refine i_T (decide_eq_true (by first | rfl | decide +kernel)) ?_))
local macro_rules | `(tactic| walk_at "wd") => `(tactic| repeat (first | walk_at "rd1" | walk_at "no" | walk_at "yes"))

/-! ### what is built -/
section
variable {P : Program} {w : World} {K : PySem.W.Frag} {mg : Str → Option Value} {base : Heap}
theorem ok_built (T : Txt K mg) : FnOk P w K mg base CX0 1 T.a_built T.d_built ["_law_steps"] (spBuilt K) := by
  refine T.F_built.ok sc__law_built (fun vs H Q E h => ?_) (fun cdv A outer s H vs Q E hr h => ⟨_, (pss_cons (ps_set (i := 1) sc__law_built.nd rfl (.inl rfl) (pe_lst pa_nil))
      (pss_cons (ps_for PassesOwn.never rfl (pi_list (pv 0)) (pg_name (i := 2) sc__law_built.nd rfl (.inl rfl))
      (pss_one (ps_if (PW.pt (pw_or (pt_cmpR op_eq (pe_ix ix_tup (pv 2) pe_int (fun _ _ => rfl)) pe_str (nomark _)) (pw_or1 (pt_cmpR op_eq (pe_ix ix_tup (pv 2) pe_int (fun _ _ => rfl)) pe_str (nomark _)))))
      (pss_cons (ps_set (i := 3) sc__law_built.nd rfl (.inl rfl) (pe_bm0 PySem.F.plainAttrs_list PySem.F.slot_list_pop PySem.F.type_list_pop mt_pop (pv 1)))
      (pss_one (ps_expr (pe_bm PySem.F.plainAttrs_list PySem.F.slot_list_append PySem.F.type_list_append mt_append (pv 1) (pa_cons (pe_tup (pa_cons (pe_ix ix_tup (pv 2) pe_int (fun _ _ => rfl)) (pa_cons (pv 3) pa_nil))) pa_nil)))))
      (pss_one (ps_if (PW.pt (pw_or (pt_cmpR op_eq (pe_ix ix_tup (pv 2) pe_int (fun _ _ => rfl)) pe_str (nomark _)) (pw_or1 (pt_cmpR op_eq (pe_ix ix_tup (pv 2) pe_int (fun _ _ => rfl)) pe_str (nomark _)))))
      (pss_cons (ps_set (i := 4) sc__law_built.nd rfl (.inl rfl) (pe_op op_sub (pe_callB call_len_seq (by rfl) T.z_len PySem.boot_len (pa_cons (pv 1) pa_nil)) (pe_ix ix_tup (pv 2) pe_int (fun _ _ => rfl))))
      (pss_one (ps_set (i := 1) sc__law_built.nd rfl (.inl rfl) (pe_op op_cat (pe_slice sl_list (pv 1) po_none (po_some (pv 4))) (pe_lst (pa_cons (pe_op op_catT (pe_tup (pa_cons (pe_ix ix_tup (pv 2) pe_int (fun _ _ => rfl)) pa_nil)) (pe_callTy call_tuple_of (by rfl) T.z_tuple (by decide +kernel) (pa_cons (pe_slice sl_list (pv 1) (po_some (pv 4)) po_none) pa_nil))) pa_nil))))))
      (pss_one (ps_expr (pe_bm PySem.F.plainAttrs_list PySem.F.slot_list_append PySem.F.type_list_append mt_append (pv 1) (pa_cons (pv 2) pa_nil)))))))))
      (pss_one (ps_ret (pe_ix ix_list (pv 1) pe_int (fun _ _ => rfl)))))), ?_⟩)
  · first | (obtain ⟨rfl, _⟩ := h; rfl) | (obtain ⟨_, rfl, _⟩ := h; rfl) | (obtain ⟨_, _, rfl, _⟩ := h; rfl) | (obtain ⟨_, _, _, rfl, _⟩ := h; rfl) | (obtain ⟨_, _, _, _, rfl, _⟩ := h; rfl) | (obtain ⟨_, _, _, _, _, rfl, _⟩ := h; rfl) | (obtain ⟨_, _, _, _, _, _, rfl, _⟩ := h; rfl) | (obtain ⟨_, _, _, _, _, _, _, rfl, _⟩ := h; rfl) | (obtain ⟨_, _, _, _, _, _, _, _, rfl, _⟩ := h; rfl) | (obtain ⟨_, _, _, _, _, _, _, _, _, rfl, _⟩ := h; rfl) | (obtain ⟨_, _, _, _, _, _, _, _, _, _, rfl, _⟩ := h; rfl) | (obtain ⟨_, _, _, _, _, _, _, _, _, _, _, rfl, _⟩ := h; rfl) | (obtain ⟨_, _, _, _, _, _, _, _, _, _, _, _, rfl, _⟩ := h; rfl) | (obtain ⟨_, _, _, _, _, _, _, _, _, _, _, _, _, rfl, _⟩ := h; rfl) | (obtain ⟨_, _, _, _, _, _, _, _, _, _, _, _, _, _, rfl, _⟩ := h; rfl)
  · obtain ⟨q, xs, ss, w, rfl, hS, sp, va, h1, hl, k⟩ := h
    try dsimp only [cxOf, Cx.nox, Cx.wish]
    refine st_of (σ := [some _, none, none, none, none]) rfl ?_
    have hxl := sp.len
    walk_at "rd"
    intro d0 hd0
    walk_at "rd"
    with_reducible refine c_forList ?_
    walk_at "rd"
    refine ⟨⟨_, same_new (Same.refl _) hd0 |>.seq hS⟩, for_list (xs := xs) (fun i σ G => ∃ (d : Addr) (vs : List V) (m : Nat) (e2 e3 e4 : Option V), σ = [some (.ref q), some (.ref d), e2, e3, e4] ∧ Same H G ∧ H d = none ∧ G d = some (.lst vs) ∧ PTrs K w G vs (exs (ss.take i)) m ∧ m ≤ i) ?_ ?_ ?_ ?_⟩
    · exact ⟨d0, [], 0, none, none, none, rfl, same_new (Same.refl _) hd0, hd0, upd_same, .nil, Nat.le_refl _⟩
    · rintro i σ G _ ⟨_, _, _, _, _, _, _, sm, _⟩
      exact sm.seq hS
    · rintro i x σ G hi ⟨d, vs, m, e2, e3, e4, rfl, sm, hd, gd, pt, hm⟩
      obtain ⟨s, a, hs, rfl, ha0, ok⟩ := sp.get hi
      have ha := sm _ _ ha0
      have hT := exs_take hs
      have hn := va i s hs
      have hil : i < ss.length := (List.getElem?_eq_some_iff.mp hs).1
      have hvl := pt.len
      have hle := pt.le
      have hsz : vs.length < sizeLine := smallLt (by omega)
      have leaf : ∀ t : Tr, exs (ss.take (i + 1)) = exs (ss.take i) ++ [t] → PTr K w G (.ref a) t 1 → ∃ (d' : Addr) (vs' : List V) (m' : Nat) (f2 f3 f4 : Option V), [some (V.ref q), some (V.ref d), some (V.ref a), e3, e4] = [some (.ref q), some (.ref d'), f2, f3, f4] ∧ Same H (upd G d (.lst (vs ++ [.ref a]))) ∧ H d' = none ∧ (upd G d (.lst (vs ++ [.ref a]))) d' = some (.lst vs') ∧ PTrs K w (upd G d (.lst (vs ++ [.ref a]))) vs' (exs (ss.take (i + 1))) m' ∧ m' ≤ i + 1 := by
        intro t ht pa
        have tp : Tp G (upd G d (.lst (vs ++ [.ref a]))) := Tp.lst (Tp.refl _) gd
        refine ⟨d, vs ++ [.ref a], m + 1, _, _, _, rfl, same_mut sm hd, hd, upd_same, ?_, by omega⟩
        rw [ht]
        exact (pt.keep tp).app (.one (pa.keep tp))
      cases s with
      | cmp s c n =>
        obtain ⟨o1, o2, o3, o4⟩ := ok
        have ha : G a = some (.tup [.str s, .int (c : Int), .int n]) := ha
        walk_at "rd"
        refine i_F (decide_eq_false (sign_ne o1 (by decide +kernel))) ?_
        walk_at "rd"
        refine i_F (decide_eq_false (sign_ne o1 (by decide +kernel))) ?_
        walk_at "rd"
        refine i_F (decide_eq_false (sign_ne o1 (by decide +kernel))) ?_
        walk_at "rd"
        refine i_F (decide_eq_false (sign_ne o1 (by decide +kernel))) ?_
        walk_at "rd"
        exact leaf (.cmp s c n) (by rw [hT]; rfl) (.cmp o1 o2 o3 o4 (sqt ha))
      | mis c =>
        have ha : G a = some (.tup [.str "missing", .int (c : Int)]) := ha
        walk_at "wd"
        exact leaf (.mis c) (by rw [hT]; rfl) (.mis ok (sqt ha))
      | neg =>
        have ha : G a = some (.tup [.str "negation"]) := ha
        obtain ⟨us, t, hu⟩ := snocT hn
        rw [hu] at pt hT
        obtain ⟨ys, zs, m1, m2, rfl, rfl, p1, p2⟩ := pt.split
        obtain ⟨v, rfl, pv⟩ := p2.sing
        walk_at "wd"
        intro b hb
        have hys : ys.length < sizeLine := smallLt (by simp at hvl; omega)
        walk_at "wd"
        have nbd : d ≠ b := ne_of_none upd_same hb
        have hbG : G b = none := by
          rw [upd_ne nbd.symm] at hb
          exact hb
        have tp : Tp G (upd (upd (upd G d (.lst ys)) b (.tup [.str "negation", v])) d (.lst (ys ++ [.ref b]))) := Tp.lst (Tp.new (Tp.lst (Tp.refl _) gd) hb) ((upd_ne nbd).trans upd_same)
        refine ⟨d, ys ++ [.ref b], m1 + (m2 + 1), some (.ref a), some v, e4, rfl, same_mut (same_new (same_mut sm hd) hb) hd, hd, upd_same, ?_, by omega⟩
        rw [hT, ex1_neg]
        exact (p1.keep tp).app (.one (.neg (sqt ((upd_ne nbd.symm).trans upd_same)) (pv.keep tp)))
      | unt =>
        have ha : G a = some (.tup [.str "untrue"]) := ha
        obtain ⟨us, t, hu⟩ := snocT hn
        rw [hu] at pt hT
        obtain ⟨ys, zs, m1, m2, rfl, rfl, p1, p2⟩ := pt.split
        obtain ⟨v, rfl, pv⟩ := p2.sing
        walk_at "wd"
        intro b hb
        have hys : ys.length < sizeLine := smallLt (by simp at hvl; omega)
        walk_at "wd"
        have nbd : d ≠ b := ne_of_none upd_same hb
        have tp : Tp G (upd (upd (upd G d (.lst ys)) b (.tup [.str "untrue", v])) d (.lst (ys ++ [.ref b]))) := Tp.lst (Tp.new (Tp.lst (Tp.refl _) gd) hb) ((upd_ne nbd).trans upd_same)
        refine ⟨d, ys ++ [.ref b], m1 + (m2 + 1), some (.ref a), some v, e4, rfl, same_mut (same_new (same_mut sm hd) hb) hd, hd, upd_same, ?_, by omega⟩
        rw [hT, ex1_unt]
        exact (p1.keep tp).app (.one (.unt (sqt ((upd_ne nbd.symm).trans upd_same)) (pv.keep tp)))
      | jn e c =>
        have ha : G a = some (.tup [.str (jw e), .int (c : Int)]) := ha
        obtain ⟨us, ws, hu, hws⟩ := splitT (show c ≤ (exs (ss.take i)).length from hn)
        subst hws
        rw [hu] at pt hT
        obtain ⟨ys, zs, m1, m2, rfl, rfl, p1, p2⟩ := pt.split
        have hzl := p2.len
        have hyl := p1.len
        rw [ex1_jn] at hT
        have hr : ((ys ++ zs).length : Int) - (ws.length : Int) = (ys.length : Int) := by
          rw [List.length_append]
          omega
        have hb1 : ys.length ≤ 1000 := by rw [List.length_append] at hvl; omega
        have hb2 : zs.length ≤ 1000 := by rw [List.length_append] at hvl; omega
        cases e
        all_goals
          walk_at "wd"
          intro p1' hp1
          rw [cut_to hr]
          walk_at "wd"
          intro p2' hp2
          walk_at "wd"
          intro p3 hp3
          rw [cut_from hr]
          walk_at "wd"
          refine ⟨p3, _, rfl, .inl ⟨sql upd_same, fun p4 hp4 => ?_⟩⟩
          walk_at "wd"
          refine r_catT (xs := [.str (jw _)]) (ys := zs) (sqt (by walk_at "hp")) (sqt upd_same) (List.cons_ne_nil _ _) (small (by rw [List.length_singleton]; omega)) (fun hz => ?_) (fun hz p5 hp5 => ?_)
          · subst hz
            have hw0 : ws = [] := List.eq_nil_of_length_eq_zero hzl.symm
            subst hw0
            walk_at "wd"
            intro p6 hp6
            walk_at "wd"
            refine r_cat (xs := ys) (ys := [_]) (by walk_at "hp") upd_same (small (by rw [List.length_singleton]; omega)) (fun p7 hp7 => ?_)
            walk_at "wd"
            refine ⟨p7, _, m1 + (m2 + 1), some (.ref a), e3, some (.int _), rfl, by walk_at "sm", Same.free (by walk_at "sm") hp7, upd_same, ?_, by omega⟩
            rw [hT]
            exact (p1.keep (by walk_at "tp")).app (.one (.jn (sqt (by walk_at "hp")) (p2.keep (by walk_at "tp"))))
          · walk_at "wd"
            intro p6 hp6
            walk_at "wd"
            refine r_cat (xs := ys) (ys := [_]) (by walk_at "hp") upd_same (small (by rw [List.length_singleton]; omega)) (fun p7 hp7 => ?_)
            walk_at "wd"
            refine ⟨p7, _, m1 + (m2 + 1), some (.ref a), e3, some (.int _), rfl, by walk_at "sm", Same.free (by walk_at "sm") hp7, upd_same, ?_, by omega⟩
            rw [hT]
            exact (p1.keep (by walk_at "tp")).app (.one (.jn (show SqT K _ p5 ([.str (jw _)] ++ zs) from sqt (by walk_at "hp")) (p2.keep (by walk_at "tp"))))
    · rintro σ G ⟨d, vs, m, e2, e3, e4, rfl, sm, hd, gd, pt, hm⟩
      rw [hxl, List.take_length] at pt
      obtain ⟨t, ht⟩ := List.length_eq_one_iff.mp h1
      rw [ht] at pt
      obtain ⟨v, rfl, pv⟩ := pt.sing
      walk_at "rd"
      exact k v t m G sm ht pv (by omega)
end

/-! ### rows in a list -/
def Rws (K : PySem.W.Frag) (w : Nat) (H : Hp) (xs : List V) : Prop := ∀ x ∈ xs, ∃ (t : Addr) (us : List V), x = V.ref t ∧ SqT K H t us ∧ w ≤ us.length ∧ us.length ≤ 3 ∧ ∀ z ∈ us, VNI z
theorem Rws.keep {K : PySem.W.Frag} {w : Nat} {H H' : Hp} {xs : List V} (h : Rws K w H xs) (e : Tp H H') : Rws K w H' xs := fun x hx => let ⟨t, us, a, b, c⟩ := h x hx; ⟨t, us, a, e.tup b, c⟩
theorem Rws.app {K : PySem.W.Frag} {w : Nat} {H : Hp} {xs ys : List V} (h : Rws K w H xs) (g : Rws K w H ys) : Rws K w H (xs ++ ys) := fun x hx => by
  rcases List.mem_append.mp hx with hx | hx
  · exact h x hx
  · exact g x hx
theorem Rws.one {K : PySem.W.Frag} {w : Nat} {H : Hp} {t : Addr} {us : List V} (h : SqT K H t us) (hw : w ≤ us.length) (h3 : us.length ≤ 3) (hv : ∀ z ∈ us, VNI z) : Rws K w H [.ref t] := fun x hx => by
  rw [List.mem_singleton] at hx
  exact ⟨t, us, hx, h, hw, h3, hv⟩
theorem Strm.tp {S L : Addr} {ns : List Int} {H H1 : Hp} (s : Strm S L ns H) (e : Ex S H H1) : Tp H H1 := by
  obtain ⟨⟨_, _, _, a, _⟩, _⟩ := s
  exact Tp.ex e a

/-! ### parts_of -/
def spParts (K : PySem.W.Frag) : Sp := fun vs H Q _ => ∃ (v : V) (t : Tr) (w m : Nat), vs = [v] ∧ PTr K w H v t m ∧ m ≤ 1000 ∧ ∀ r us k H', Same H H' → SqT K H' r us → PTrs K w H' us (kids t) k → k + 1 ≤ m → Q (.ref r) H'
section
variable {P : Program} {w : World} {K : PySem.W.Frag} {mg : Str → Option Value} {base : Heap}
theorem ok_parts_of (T : Txt K mg) : FnOk P w K mg base CX0 1 T.a_parts_of T.d_parts_of ["predicate"] (spParts K) := by
  refine T.F_parts_of.ok sc_parts_of (fun vs H Q E h => ?_) (fun cdv A outer s H vs Q E hr h => ⟨_, (pss_cons (ps_if (PW.pt (pw_or (pt_cmpR op_in_seq (pe_ix ix_tup (pv 0) pe_int (fun _ _ => rfl)) (pe_glob (v := .ref T.c_SIGNS) rfl T.g_SIGNS rfl) (by rfl)) (pw_or1 (pt_cmpR op_eq (pe_ix ix_tup (pv 0) pe_int (fun _ _ => rfl)) pe_str (nomark _)))))
      (pss_one (ps_ret (pe_tup pa_nil)))
      pss_nil)
      (pss_one (ps_ret (pe_slice sl_tup (pv 0) (po_some pe_int) po_none)))), ?_⟩)
  · first | (obtain ⟨rfl, _⟩ := h; rfl) | (obtain ⟨_, rfl, _⟩ := h; rfl) | (obtain ⟨_, _, rfl, _⟩ := h; rfl) | (obtain ⟨_, _, _, rfl, _⟩ := h; rfl) | (obtain ⟨_, _, _, _, rfl, _⟩ := h; rfl) | (obtain ⟨_, _, _, _, _, rfl, _⟩ := h; rfl) | (obtain ⟨_, _, _, _, _, _, rfl, _⟩ := h; rfl) | (obtain ⟨_, _, _, _, _, _, _, rfl, _⟩ := h; rfl) | (obtain ⟨_, _, _, _, _, _, _, _, rfl, _⟩ := h; rfl) | (obtain ⟨_, _, _, _, _, _, _, _, _, rfl, _⟩ := h; rfl) | (obtain ⟨_, _, _, _, _, _, _, _, _, _, rfl, _⟩ := h; rfl) | (obtain ⟨_, _, _, _, _, _, _, _, _, _, _, rfl, _⟩ := h; rfl) | (obtain ⟨_, _, _, _, _, _, _, _, _, _, _, _, rfl, _⟩ := h; rfl) | (obtain ⟨_, _, _, _, _, _, _, _, _, _, _, _, _, rfl, _⟩ := h; rfl) | (obtain ⟨_, _, _, _, _, _, _, _, _, _, _, _, _, _, rfl, _⟩ := h; rfl)
  · obtain ⟨v, t, w, m, rfl, pt, hm, k⟩ := h
    try dsimp only [cxOf, Cx.nox, Cx.wish]
    refine st_of (σ := [some _]) rfl ?_
    cases pt with
    | cmp hs hc h0 h1 h =>
      walk_at "rd"
      refine r_inT (T.l_SIGNS _) rfl rfl ?_
      rw [if_neg (by decide), sign_in hs]
      walk_at "rd"
      intro r hr
      exact k r [] 0 _ (same_new (Same.refl _) hr) (sqt upd_same) .nil (by omega)
    | mis hc h =>
      walk_at "rd"
      refine r_inT (T.l_SIGNS _) rfl rfl ?_
      rw [if_neg (by decide), show inV (V.str "missing") [.str "<", .str "<=", .str "=", .str "!=", .str ">=", .str ">"] = false by decide +kernel]
      walk_at "wd"
      intro r hr
      exact k r [] 0 _ (same_new (Same.refl _) hr) (sqt upd_same) .nil (by omega)
    | neg h p =>
      walk_at "rd"
      refine r_inT (T.l_SIGNS _) rfl rfl ?_
      rw [if_neg (by decide), show inV (V.str "negation") [.str "<", .str "<=", .str "=", .str "!=", .str ">=", .str ">"] = false by decide +kernel]
      walk_at "wd"
      refine r_slT h (by simp [HT.sIx]) (fun q hq => ?_)
      exact k q _ _ _ (same_new (Same.refl _) hq) (sqt upd_same) (.one (p.keep (.new (.refl _) hq))) (by omega)
    | unt h p =>
      walk_at "rd"
      refine r_inT (T.l_SIGNS _) rfl rfl ?_
      rw [if_neg (by decide), show inV (V.str "untrue") [.str "<", .str "<=", .str "=", .str "!=", .str ">=", .str ">"] = false by decide +kernel]
      walk_at "wd"
      refine r_slT h (by simp [HT.sIx]) (fun q hq => ?_)
      exact k q _ _ _ (same_new (Same.refl _) hq) (sqt upd_same) (.one (p.keep (.new (.refl _) hq))) (by omega)
    | jn h p =>
      walk_at "rd"
      refine r_inT (T.l_SIGNS _) rfl rfl ?_
      rw [if_neg (by decide), jw_nin]
      walk_at "rd"
      refine i_F (decide_eq_false (jw_ne (by decide +kernel))) ?_
      walk_at "rd"
      refine r_slT h (by simp [HT.sIx]) (fun q hq => ?_)
      exact k q _ _ _ (same_new (Same.refl _) hq) (sqt (by rw [upd_same]; congr 2; exact cut_from (xs := [_]) rfl)) (p.keep (.new (.refl _) hq)) (by omega)
end

def spDesc (K : PySem.W.Frag) (fu : Nat) : Sp := fun vs H Q _ => ∃ (v : V) (t : Tr) (w m : Nat), vs = [v] ∧ PTr K w H v t m ∧ w ≤ 3 ∧ m ≤ fu ∧ fu ≤ 1000 ∧ ∀ H', Same H H' → Q (.str (desc t)) H'
theorem spDesc_zero {K : PySem.W.Frag} {vs : List V} {H : Hp} {Q : VK} {E : XK} (h : spDesc K 0 vs H Q E) : False := by
  obtain ⟨v, t, w, m, _, p, _, hm, _⟩ := h
  have := p.pos
  omega
def ds (t : Tr) : V := .str (desc t)
theorem map_ds (ts : List Tr) : ts.map ds = (ts.map desc).map V.str := by
  rw [List.map_map]
  rfl
theorem l_c : (Str.ofString "c").length = 1 := by decide +kernel
theorem l_sp : (Str.ofString " ").length = 1 := by decide +kernel
theorem l_ms : (Str.ofString " missing").length = 8 := by decide +kernel
theorem l_op : (Str.ofString "(").length = 1 := by decide +kernel
theorem l_cl : (Str.ofString ")").length = 1 := by decide +kernel
theorem l_e : Str.empty.length = 0 := rfl
theorem l_co : (Str.ofString ", ").length = 2 := by decide +kernel
theorem tot_join {ys : List Str} {n : Nat} (h : tot ys ≤ n) : (PySem.Txt.join ", " ys).length ≤ n := by
  rw [TL.join_eq]
  have := join_len ", " ys
  rw [l_co] at this
  unfold tot at h
  omega
theorem tot_room {ys : List Str} (h : tot ys ≤ 16000000) : (ys.map (·.length)).sum + ys.length * (Str.ofString ", ").length ≤ 16777216 := by
  rw [l_co]
  unfold tot at h
  omega
theorem wrap_eq (x : Str) (ys : List Str) : x ++ "(" ++ PySem.Txt.join ", " ys ++ ")" = wrapS x ys := by
  rw [TL.join_eq]
  rfl
local macro_rules | `(tactic| walk_at "js1") => `(tactic| first
  | with_reducible refine c_js ?_
  | with_reducible refine c_jsN ?_
  | with_reducible refine c_fmt ?_
  | with_reducible refine c_M1 ?_
  | ((with_reducible show Str.length _ ≤ sizeLine ∧ _); refine ⟨big (by first | omega | (simp only [len_add, l_c, l_sp, l_ms, l_op, l_cl, l_e]; omega)), ?_⟩)
  | ((with_reducible show Str.length _ + Str.length _ ≤ sizeLine ∧ _); refine ⟨big (by first | omega | (simp only [len_add, l_c, l_sp, l_ms, l_op, l_cl, l_e]; omega)), ?_⟩)
  | with_reducible refine ⟨_, _, rfl, rfl, ?_⟩
  | ((with_reducible show (∃ a, V.str _ = V.str a) ∧ _); refine ⟨⟨_, rfl⟩, ?_⟩)
  | ((with_reducible show Nat.log2 _ < 1920 ∧ _); refine ⟨lg_of (by omega) (by omega), ?_⟩)
  | walk_at "rd1")
local macro_rules | `(tactic| walk_at "js") => `(tactic| repeat walk_at "js1")
local macro_rules | `(tactic| walk_at "jw") => `(tactic| repeat (first | walk_at "js1" | walk_at "no" | walk_at "yes" | walk_at "tf"))
section
variable {P : Program} {w : World} {K : PySem.W.Frag} {mg : Str → Option Value} {base : Heap}
theorem ok_describe (T : Txt K mg) : ∀ fu : Nat, FnOk P w K mg base CX0 (fu + 3) T.a_describe T.d_describe ["predicate"] (spDesc K fu) := by
  refine Nat.rec (motive := fun fu => FnOk P w K mg base CX0 (fu + 3) T.a_describe T.d_describe ["predicate"] (spDesc K fu)) ⟨fun vs H Q E h => (spDesc_zero h).elim, fun _ _ _ _ _ _ _ _ _ _ _ _ _ h => (spDesc_zero h).elim⟩ (fun fu ih => ?_)
  refine T.F_describe.ok sc_describe (fun vs H Q E h => ?_) (fun cdv A outer s H vs Q E hr h => ⟨_, (pss_cons (ps_set (i := 1) sc_describe.nd rfl (.inl rfl) (pe_ix ix_tup (pv 0) pe_int (fun _ _ => rfl)))
      (pss_cons (ps_if (pt_cmpR op_in_seq (pv 1) (pe_glob (v := .ref T.c_SIGNS) rfl T.g_SIGNS rfl) (by rfl))
      (pss_one (ps_ret (pe_joined (.cons pe_str (.cons (pe_fmt (pe_ix ix_tup (pv 0) pe_int (fun _ _ => rfl))) (.cons pe_str (.cons (pe_fmt (pv 1)) (.cons pe_str (.cons (pe_fmt (pe_ix ix_tup (pv 0) pe_int (fun _ _ => rfl))) .nil)))))))))
      pss_nil)
      (pss_cons (ps_if (pt_cmpR op_eq (pv 1) pe_str (nomark _))
      (pss_one (ps_ret (pe_joined (.cons pe_str (.cons (pe_fmt (pe_ix ix_tup (pv 0) pe_int (fun _ _ => rfl))) (.cons pe_str .nil))))))
      pss_nil)
      (pss_cons (ps_set (i := 2) sc_describe.nd rfl (.inl rfl) (pe_join pe_str (pe_lc (own := [("part", 3)]) (g := gName 3) (tt := tYes) rfl sc_describe.nd (pi_tup (pe_call (ok_parts_of T) (hr.mono (by omega)) (by rfl) T.g_parts_of T.F_parts_of.kp T.b_parts_of .nil pass0 (pa_cons (pv 0) pa_nil))) (blkOk_by (own := [("part", 3)]) (N := N_describe) (sc := defScope s_describe) (by decide +kernel)) (fun _ _ _ _ _ => pg_name (i := 3) sc_describe.nd rfl (Or.inl rfl)) (fun _ _ _ _ _ => pts_nil) (fun _ _ _ _ _ => (pe_call ih (hr.mono (by omega)) (by rfl) T.g_describe T.F_describe.kp T.b_describe .nil pass0 (pa_cons (pv 3) pa_nil))))))
      (pss_one (ps_ret (pe_joined (.cons (pe_fmt (pv 1)) (.cons pe_str (.cons (pe_fmt (pv 2)) (.cons pe_str .nil))))))))))), ?_⟩)
  · first | (obtain ⟨rfl, _⟩ := h; rfl) | (obtain ⟨_, rfl, _⟩ := h; rfl) | (obtain ⟨_, _, rfl, _⟩ := h; rfl) | (obtain ⟨_, _, _, rfl, _⟩ := h; rfl) | (obtain ⟨_, _, _, _, rfl, _⟩ := h; rfl) | (obtain ⟨_, _, _, _, _, rfl, _⟩ := h; rfl) | (obtain ⟨_, _, _, _, _, _, rfl, _⟩ := h; rfl) | (obtain ⟨_, _, _, _, _, _, _, rfl, _⟩ := h; rfl) | (obtain ⟨_, _, _, _, _, _, _, _, rfl, _⟩ := h; rfl) | (obtain ⟨_, _, _, _, _, _, _, _, _, rfl, _⟩ := h; rfl) | (obtain ⟨_, _, _, _, _, _, _, _, _, _, rfl, _⟩ := h; rfl) | (obtain ⟨_, _, _, _, _, _, _, _, _, _, _, rfl, _⟩ := h; rfl) | (obtain ⟨_, _, _, _, _, _, _, _, _, _, _, _, rfl, _⟩ := h; rfl) | (obtain ⟨_, _, _, _, _, _, _, _, _, _, _, _, _, rfl, _⟩ := h; rfl) | (obtain ⟨_, _, _, _, _, _, _, _, _, _, _, _, _, _, rfl, _⟩ := h; rfl)
  · obtain ⟨v, t, w, m, rfl, pt, hw, hm, hf, k⟩ := h
    try dsimp only [cxOf, Cx.nox, Cx.wish]
    refine st_of (σ := [some _, none, none, none]) rfl ?_
    have hlen := pt.txt (by omega)
    rcases pt.word with ⟨a, s, c, n, rfl, rfl, hs, hc, h0, h1, h⟩ | ⟨a, c, rfl, rfl, hc, h⟩ | ⟨a, x, vs, rfl, h, hx, hmi, hcase⟩
    · have b1 : (Str.ofString (toString (c : Int))).length ≤ 1921 := num_len (lg_of (by omega) (by omega))
      have b2 : (Str.ofString (toString n)).length ≤ 1921 := num_len (lg_of h0 h1)
      have b3 := sign_len hs
      walk_at "js"
      refine r_inT (T.l_SIGNS _) rfl rfl ?_
      rw [if_neg (by decide), sign_in hs]
      walk_at "js"
      have k := k H (Same.refl _)
      rw [desc_cmp] at k
      show Q (.str _) H
      rw [empty_add]
      exact k
    · have b1 : (Str.ofString (toString (c : Int))).length ≤ 1921 := num_len (lg_of (by omega) (by omega))
      walk_at "js"
      refine r_inT (T.l_SIGNS _) rfl rfl ?_
      rw [if_neg (by decide), show inV (V.str "missing") [.str "<", .str "<=", .str "=", .str "!=", .str ">=", .str ">"] = false by decide +kernel]
      walk_at "wd"
      walk_at "js"
      have k := k H (Same.refl _)
      rw [desc_mis] at k
      show Q (.str _) H
      rw [empty_add]
      exact k
    · have xl : x.length ≤ 8 := by
        rcases hcase with ⟨rfl, _⟩ | ⟨rfl, _⟩ | ⟨e, ts, rfl, _⟩
        · decide +kernel
        · decide +kernel
        · exact jw_len e
      have xd : desc t = wrapS x ((kids t).map desc) := by
        rcases hcase with ⟨rfl, t', rfl⟩ | ⟨rfl, t', rfl⟩ | ⟨e, ts, rfl, rfl⟩
        · exact desc_neg t'
        · exact desc_unt t'
        · exact desc_jn e ts
      walk_at "js"
      refine r_inT (T.l_SIGNS _) rfl rfl ?_
      rw [if_neg (by decide), hx]
      walk_at "js"
      refine i_F (decide_eq_false hmi) ?_
      walk_at "js"
      with_reducible refine c_lcT ?_
      walk_at "rd"
      refine ⟨_, t, w, m, rfl, pt, by omega, fun r1 us1 k1 H1 s1 h1 p1 hk => ?_⟩
      walk_at "rd"
      have hul := p1.len
      have hule := p1.le
      refine ⟨⟨_, h1⟩, fun D hD => lc_tup (xs := us1) (fun i G => Same H1 G ∧ G D = some (.lst (((kids t).take i).map ds))) ?_ ?_ ?_ ?_⟩
      · exact ⟨same_new (Same.refl _) hD, upd_same⟩
      · rintro i G _ ⟨sG, _⟩
        exact tup' h1 sG
      · rintro i y G hi ⟨sG, gD⟩
        obtain ⟨t', k', hk', p', le⟩ := p1.get hi
        walk_at "rd"
        refine ⟨rfl, ?_⟩
        walk_at "rd"
        refine ⟨y, t', w, k', rfl, p'.keep (.same sG), hw, by omega, by omega, fun H2 s2 => ?_⟩
        walk_at "rd"
        refine ⟨_, s2 _ _ gD, smallLt (by rw [List.length_map, List.length_take]; omega), same_mut (sG.trans s2) hD, ?_⟩
        rw [upd_same, List.take_add_one, hk']
        simp [ds]
      · rintro G ⟨sG, gD⟩
        rw [hul, List.take_length, map_ds] at gD
        have sH := s1.trans sG
        have ht := p1.txt (by omega)
        have hj := tot_join ht
        walk_at "rd"
        refine ⟨_, D, (kids t).map desc, rfl, rfl, .inl (sql gD), tot_room (by omega), ?_⟩
        walk_at "js"
        have k := k G sH
        rw [xd] at k
        show Q (.str _) G
        rw [empty_add, wrap_eq]
        exact k
def spText (K : PySem.W.Frag) : Sp := fun vs H Q _ => ∃ (q : Addr) (xs : List V) (ss : List Stp) (w : Nat), vs = [.ref q] ∧ SqL K H q xs ∧ Stps w H xs ss ∧ w ≤ 3 ∧ Valid ss ∧ (exs ss).length = 1 ∧ ss.length ≤ 1000 ∧
  ∀ t H', Same H H' → exs ss = [t] → Q (.str (desc t)) H'
theorem ds_snoc (ts : List Tr) (t : Tr) : (ts ++ [t]).map ds = ts.map ds ++ [ds t] := by
  rw [List.map_append]
  rfl
def wt (ts : List Tr) : Nat := tot (ts.map desc)
theorem wt_app (a b : List Tr) : wt (a ++ b) = wt a + wt b := by
  unfold wt
  rw [List.map_append, tot_app]
theorem wt_one (t : Tr) : wt [t] = (desc t).length + 2 := tot_one _
theorem wt_snoc (a : List Tr) (t : Tr) : wt (a ++ [t]) = wt a + ((desc t).length + 2) := by rw [wt_app, wt_one]
theorem ok_text (T : Txt K mg) : FnOk P w K mg base CX0 1 T.a_text T.d_text ["_law_steps"] (spText K) := by
  refine T.F_text.ok sc__law_text (fun vs H Q E h => ?_) (fun cdv A outer s H vs Q E hr h => ⟨_, (pss_cons (ps_set (i := 1) sc__law_text.nd rfl (.inl rfl) (pe_lst pa_nil))
      (pss_cons (ps_for PassesOwn.never rfl (pi_list (pv 0)) (pg_name (i := 2) sc__law_text.nd rfl (.inl rfl))
      (pss_cons (ps_set (i := 3) sc__law_text.nd rfl (.inl rfl) pe_int)
      (pss_cons (ps_if (PW.pt (pw_or (pt_cmpR op_eq (pe_ix ix_tup (pv 2) pe_int (fun _ _ => rfl)) pe_str (nomark _)) (pw_or1 (pt_cmpR op_eq (pe_ix ix_tup (pv 2) pe_int (fun _ _ => rfl)) pe_str (nomark _)))))
      (pss_one (ps_set (i := 3) sc__law_text.nd rfl (.inl rfl) (pe_ix ix_tup (pv 2) pe_int (fun _ _ => rfl))))
      pss_nil)
      (pss_one (ps_if (pt_cmpR op_eq (pe_callB call_len_seq (by rfl) T.z_len PySem.boot_len (pa_cons (pv 2) pa_nil)) pe_int (nomark _))
      (pss_one (ps_expr (pe_bm PySem.F.plainAttrs_list PySem.F.slot_list_append PySem.F.type_list_append mt_append (pv 1) (pa_cons (pe_op op_add_str (pe_op op_add_str (pe_op op_add_str (pe_op op_add_str (pe_op op_add_str pe_str (pe_callTy call_str_int (by rfl) T.z_str (by decide +kernel) (pa_cons (pe_ix ix_tup (pv 2) pe_int (fun _ _ => rfl)) pa_nil))) pe_str) (pe_ix ix_tup (pv 2) pe_int (fun _ _ => rfl))) pe_str) (pe_callTy call_str_int (by rfl) T.z_str (by decide +kernel) (pa_cons (pe_ix ix_tup (pv 2) pe_int (fun _ _ => rfl)) pa_nil))) pa_nil))))
      (pss_one (ps_if (pt_cmpR op_eq (pe_ix ix_tup (pv 2) pe_int (fun _ _ => rfl)) pe_str (nomark _))
      (pss_one (ps_expr (pe_bm PySem.F.plainAttrs_list PySem.F.slot_list_append PySem.F.type_list_append mt_append (pv 1) (pa_cons (pe_op op_add_str (pe_op op_add_str pe_str (pe_callTy call_str_int (by rfl) T.z_str (by decide +kernel) (pa_cons (pe_ix ix_tup (pv 2) pe_int (fun _ _ => rfl)) pa_nil))) pe_str) pa_nil))))
      (pss_cons (ps_set (i := 4) sc__law_text.nd rfl (.inl rfl) (pe_op op_sub (pe_callB call_len_seq (by rfl) T.z_len PySem.boot_len (pa_cons (pv 1) pa_nil)) (pv 3)))
      (pss_one (ps_set (i := 1) sc__law_text.nd rfl (.inl rfl) (pe_op op_cat (pe_slice sl_list (pv 1) po_none (po_some (pv 4))) (pe_lst (pa_cons (pe_op op_add_str (pe_op op_add_str (pe_op op_add_str (pe_ix ix_tup (pv 2) pe_int (fun _ _ => rfl)) pe_str) (pe_join pe_str (pe_slice sl_list (pv 1) (po_some (pv 4)) po_none))) pe_str) pa_nil)))))))))))))
      (pss_one (ps_ret (pe_ix ix_list (pv 1) pe_int (fun _ _ => rfl)))))), ?_⟩)
  · first | (obtain ⟨rfl, _⟩ := h; rfl) | (obtain ⟨_, rfl, _⟩ := h; rfl) | (obtain ⟨_, _, rfl, _⟩ := h; rfl) | (obtain ⟨_, _, _, rfl, _⟩ := h; rfl) | (obtain ⟨_, _, _, _, rfl, _⟩ := h; rfl) | (obtain ⟨_, _, _, _, _, rfl, _⟩ := h; rfl) | (obtain ⟨_, _, _, _, _, _, rfl, _⟩ := h; rfl) | (obtain ⟨_, _, _, _, _, _, _, rfl, _⟩ := h; rfl) | (obtain ⟨_, _, _, _, _, _, _, _, rfl, _⟩ := h; rfl) | (obtain ⟨_, _, _, _, _, _, _, _, _, rfl, _⟩ := h; rfl) | (obtain ⟨_, _, _, _, _, _, _, _, _, _, rfl, _⟩ := h; rfl) | (obtain ⟨_, _, _, _, _, _, _, _, _, _, _, rfl, _⟩ := h; rfl) | (obtain ⟨_, _, _, _, _, _, _, _, _, _, _, _, rfl, _⟩ := h; rfl) | (obtain ⟨_, _, _, _, _, _, _, _, _, _, _, _, _, rfl, _⟩ := h; rfl) | (obtain ⟨_, _, _, _, _, _, _, _, _, _, _, _, _, _, rfl, _⟩ := h; rfl)
  · obtain ⟨q, xs, ss, w, rfl, hS, sp, hw, va, h1, hl, k⟩ := h
    try dsimp only [cxOf, Cx.nox, Cx.wish]
    refine st_of (σ := [some _, none, none, none, none]) rfl ?_
    have hxl := sp.len
    walk_at "js"
    intro d0 hd0
    walk_at "js"
    with_reducible refine c_forList ?_
    walk_at "js"
    refine ⟨⟨_, same_new (Same.refl _) hd0 |>.seq hS⟩, for_list (xs := xs) (fun i σ G => ∃ (d : Addr) (e3 e4 e5 : Option V), σ = [some (.ref q), some (.ref d), e3, e4, e5] ∧ Same H G ∧ H d = none ∧ G d = some (.lst ((exs (ss.take i)).map ds)) ∧ (exs (ss.take i)).length ≤ i ∧ wt (exs (ss.take i)) ≤ 5000 * i) ?_ ?_ ?_ ?_⟩
    · exact ⟨d0, none, none, none, rfl, same_new (Same.refl _) hd0, hd0, upd_same, Nat.le_refl _, Nat.le_refl _⟩
    · rintro i σ G _ ⟨_, _, _, _, _, sm, _⟩
      exact sm.seq hS
    · rintro i x σ G hi ⟨d, e3, e4, e5, rfl, sm, hd, gd, hle, hwt⟩
      obtain ⟨s, a, hs, rfl, ha0, ok⟩ := sp.get hi
      have ha := sm _ _ ha0
      have hT := exs_take hs
      have hn := va i s hs
      have hil : i < ss.length := (List.getElem?_eq_some_iff.mp hs).1
      have hsz : ((exs (ss.take i)).map ds).length < sizeLine := smallLt (by rw [List.length_map]; omega)
      cases s with
      | cmp s c n =>
        obtain ⟨o1, o2, o3, o4⟩ := ok
        have b1 : (Str.ofString (toString (c : Int))).length ≤ 1921 := num_len (lg_of (by omega) (by omega))
        have b2 : (Str.ofString (toString n)).length ≤ 1921 := num_len (lg_of o3 o4)
        have b3 := sign_len o1
        have ha : G a = some (.tup [.str s, .int (c : Int), .int n]) := ha
        walk_at "js"
        refine i_F (decide_eq_false (sign_ne o1 (by decide +kernel))) ?_
        walk_at "js"
        refine i_F (decide_eq_false (sign_ne o1 (by decide +kernel))) ?_
        walk_at "js"
        walk_at "tf"
        walk_at "js"
        have hx0 : desc (.cmp s c n) = leafS s c n := desc_cmp s c n
        have hx8 := leaf_len o1 (c := c) (by omega) o3 o4
        refine ⟨d, _, _, _, rfl, same_mut sm hd, hd, ?_, ?_, ?_⟩
        · rw [upd_same, hT]
          exact congrArg (fun z => some (HO.lst z)) (ds_snoc _ (.cmp s c n)).symm
        · rw [hT]
          simp [ex1]
          omega
        · rw [hT]
          show wt (exs (ss.take i) ++ [.cmp s c n]) ≤ _
          rw [wt_snoc, hx0]
          omega
      | mis c =>
        have ok : c < w := ok
        have b1 : (Str.ofString (toString (c : Int))).length ≤ 1921 := num_len (lg_of (by omega) (by omega))
        have ha : G a = some (.tup [.str "missing", .int (c : Int)]) := ha
        walk_at "jw"
        have hx0 : desc (.mis c) = misS c := desc_mis c
        have hx8 := mis_len (c := c) (by omega)
        refine ⟨d, _, _, _, rfl, same_mut sm hd, hd, ?_, ?_, ?_⟩
        · rw [upd_same, hT]
          exact congrArg (fun z => some (HO.lst z)) (ds_snoc _ (.mis c)).symm
        · rw [hT]
          simp [ex1]
          omega
        · rw [hT]
          show wt (exs (ss.take i) ++ [.mis c]) ≤ _
          rw [wt_snoc, hx0]
          omega
      | neg =>
        have ha : G a = some (.tup [.str "negation"]) := ha
        obtain ⟨us', t, hu⟩ := snocT hn
        rw [hu, ex1_neg] at hT
        rw [hu] at hle hwt gd
        have hle' : us'.length ≤ i := by simp at hle; omega
        generalize hws : [t] = ws at gd hle hwt
        have hwl : ws.length = 1 := by rw [← hws]; rfl
        have hx0 : desc (.neg t) = wrapS "negation" (ws.map desc) := by rw [← hws]; exact desc_neg t
        have hx8 := wrap_len (x := "negation") (ys := ws.map desc) (by decide +kernel)
        rw [wt_app] at hwt
        unfold wt at hwt
        have hj := tot_join (Nat.le_refl (tot (ws.map desc)))
        rw [List.map_append] at gd
        have hr : (((us'.map ds) ++ ws.map ds).length : Int) - 1 = ((us'.map ds).length : Int) := by
          rw [List.length_append, List.length_map, List.length_map]
          omega
        have lx : (Str.ofString "negation").length ≤ 8 := by decide +kernel
        walk_at "jw"
        intro p1 hp1
        rw [cut_to hr]
        walk_at "jw"
        intro p2 hp2
        rw [cut_from hr, map_ds ws]
        walk_at "jw"
        refine ⟨_, p2, ws.map desc, rfl, rfl, .inl (sql upd_same), tot_room (by omega), ?_⟩
        walk_at "jw"
        intro p3 hp3
        rw [wrap_eq, ← hx0]
        walk_at "jw"
        refine r_cat (xs := us'.map ds) (ys := [_]) (by walk_at "hp") upd_same (small (by rw [List.length_singleton, List.length_map]; omega)) (fun p4 hp4 => ?_)
        walk_at "jw"
        refine ⟨p4, _, _, _, rfl, by walk_at "sm", Same.free (by walk_at "sm") hp4, ?_, by rw [hT]; simp; omega, by rw [hT, wt_snoc, hx0]; unfold wt; omega⟩
        rw [upd_same, hT, ds_snoc]
        rfl
      | unt =>
        have ha : G a = some (.tup [.str "untrue"]) := ha
        obtain ⟨us', t, hu⟩ := snocT hn
        rw [hu, ex1_unt] at hT
        rw [hu] at hle hwt gd
        have hle' : us'.length ≤ i := by simp at hle; omega
        generalize hws : [t] = ws at gd hle hwt
        have hwl : ws.length = 1 := by rw [← hws]; rfl
        have hx0 : desc (.unt t) = wrapS "untrue" (ws.map desc) := by rw [← hws]; exact desc_unt t
        have hx8 := wrap_len (x := "untrue") (ys := ws.map desc) (by decide +kernel)
        rw [wt_app] at hwt
        unfold wt at hwt
        have hj := tot_join (Nat.le_refl (tot (ws.map desc)))
        rw [List.map_append] at gd
        have hr : (((us'.map ds) ++ ws.map ds).length : Int) - 1 = ((us'.map ds).length : Int) := by
          rw [List.length_append, List.length_map, List.length_map]
          omega
        have lx : (Str.ofString "untrue").length ≤ 8 := by decide +kernel
        walk_at "jw"
        intro p1 hp1
        rw [cut_to hr]
        walk_at "jw"
        intro p2 hp2
        rw [cut_from hr, map_ds ws]
        walk_at "jw"
        refine ⟨_, p2, ws.map desc, rfl, rfl, .inl (sql upd_same), tot_room (by omega), ?_⟩
        walk_at "jw"
        intro p3 hp3
        rw [wrap_eq, ← hx0]
        walk_at "jw"
        refine r_cat (xs := us'.map ds) (ys := [_]) (by walk_at "hp") upd_same (small (by rw [List.length_singleton, List.length_map]; omega)) (fun p4 hp4 => ?_)
        walk_at "jw"
        refine ⟨p4, _, _, _, rfl, by walk_at "sm", Same.free (by walk_at "sm") hp4, ?_, by rw [hT]; simp; omega, by rw [hT, wt_snoc, hx0]; unfold wt; omega⟩
        rw [upd_same, hT, ds_snoc]
        rfl
      | jn e c =>
        have ha : G a = some (.tup [.str (jw e), .int (c : Int)]) := ha
        obtain ⟨us', ws, hu, hws⟩ := splitT (show c ≤ (exs (ss.take i)).length from hn)
        subst hws
        rw [hu, ex1_jn] at hT
        rw [hu, List.map_append] at gd
        rw [hu] at hle hwt
        rw [List.length_append] at hle
        rw [wt_app] at hwt
        unfold wt at hwt
        have hx0 := desc_jn e ws
        have hx8 := wrap_len (x := jw e) (ys := ws.map desc) (jw_len e)
        have hj := tot_join (Nat.le_refl (tot (ws.map desc)))
        have hr : (((us'.map ds) ++ ws.map ds).length : Int) - (ws.length : Int) = ((us'.map ds).length : Int) := by
          rw [List.length_append, List.length_map, List.length_map]
          omega
        have e3 : decide (jw e = "missing") = false := decide_eq_false (jw_ne (by decide +kernel))
        have lx := jw_len e
        cases e
        all_goals
          walk_at "jw"
          intro p1 hp1
          rw [cut_to hr]
          walk_at "jw"
          intro p2 hp2
          rw [cut_from hr, map_ds ws]
          walk_at "jw"
          refine ⟨_, p2, ws.map desc, rfl, rfl, .inl (sql upd_same), tot_room (by omega), ?_⟩
          walk_at "jw"
          intro p3 hp3
          rw [wrap_eq, ← hx0]
          walk_at "jw"
          refine r_cat (xs := us'.map ds) (ys := [_]) (by walk_at "hp") upd_same (small (by rw [List.length_singleton, List.length_map]; omega)) (fun p4 hp4 => ?_)
          walk_at "jw"
          refine ⟨p4, _, _, _, rfl, by walk_at "sm", Same.free (by walk_at "sm") hp4, ?_, by rw [hT]; simp; omega, by rw [hT, wt_snoc, hx0]; unfold wt; omega⟩
          rw [upd_same, hT, ds_snoc]
          rfl
    · rintro σ G ⟨d, e3, e4, e5, rfl, sm, hd, gd, hle, hwt⟩
      rw [hxl, List.take_length] at gd
      obtain ⟨t, ht⟩ := List.length_eq_one_iff.mp h1
      rw [ht] at gd
      have gd : G d = some (.lst [ds t]) := gd
      walk_at "rd"
      exact k t G sm ht
end
section
variable {K : PySem.W.Frag} {H H' : Hp}
theorem r_isi {x : V} {t c : String} {b : Bool} {Q : VK} (ty : TyX K H x (.type t)) (e : kitB t c = some b) (q : Q (.bl b) H) : rIsi K [x, .ty c] H Q :=
  ⟨x, _, _, _, b, rfl, .ty _, ty, kit_ty e, q⟩
end
def spLaw (K : PySem.W.Frag) : Sp := fun vs H Q _ => ∃ (a : Addr) (ns : List Int), vs = [.ref a] ∧ SqL K H a (ns.map V.int) ∧ ns.length ≤ 63 ∧ ∀ H', Q (.bl true) H'
section
variable {P : Program} {w : World} {K : PySem.W.Frag} {mg : Str → Option Value} {base : Heap}
theorem ok_law {f : Addr} {fd : FuncData} (F : Fun K "law" "law" s_law f fd) (T : Txt K mg) : FnOk P w K mg base CX0 21 f fd ["_law_script"] (spLaw K) := by
  refine F.ok sc_law (fun vs H Q E h => ?_) (fun cdv A outer s H vs Q E hr h => ⟨_, (pss_cons (ps_set (i := 1) sc_law.nd rfl (.inl rfl) (pe_call (ok_stream T) (hr.mono (by decide)) (by rfl) T.g_stream T.F_stream.kp T.b_stream .nil pass0 (pa_cons (pv 0) pa_nil)))
      (pss_cons (ps_set (i := 2) sc_law.nd rfl (.inl rfl) (pe_call (ok_pool T) (hr.mono (by decide)) (by rfl) T.g_pool T.F_pool.kp T.b_pool .nil pass0 (pa_cons (pv 1) (pa_cons (pe_op op_add pe_int (pe_call (ok_draw T) (hr.mono (by decide)) (by rfl) T.g_draw T.F_draw.kp T.b_draw .nil pass0 (pa_cons (pv 1) (pa_cons pe_int pa_nil)))) pa_nil))))
      (pss_cons (ps_set (i := 3) sc_law.nd rfl (.inl rfl) (pe_call (ok_recipe T) (hr.mono (by decide)) (by rfl) T.g_recipe T.F_recipe.kp T.b_recipe .nil pass0 (pa_cons (pv 1) (pa_cons (pv 2) (pa_cons pe_int pa_nil)))))
      (pss_cons (ps_set (i := 4) sc_law.nd rfl (.inl rfl) (pe_call (ok_recipe T) (hr.mono (by decide)) (by rfl) T.g_recipe T.F_recipe.kp T.b_recipe .nil pass0 (pa_cons (pv 1) (pa_cons (pv 2) (pa_cons pe_int pa_nil)))))
      (pss_cons (ps_set (i := 5) sc_law.nd rfl (.inl rfl) (pe_call (ok_built T) (hr.mono (by decide)) (by rfl) T.g_built T.F_built.kp T.b_built .nil pass0 (pa_cons (pv 3) pa_nil)))
      (pss_cons (ps_for PassesOwn.never rfl (pi_list (pe_lst (pa_cons (pv 3) (pa_cons (pv 4) (pa_cons (pv 3) pa_nil))))) (pg_name (i := 6) sc_law.nd rfl (.inl rfl))
      (pss_cons (ps_set (i := 7) sc_law.nd rfl (.inl rfl) (pe_call (ok_describe T (16)) (hr.mono (by decide)) (by rfl) T.g_describe T.F_describe.kp T.b_describe .nil pass0 (pa_cons (pe_call (ok_built T) (hr.mono (by decide)) (by rfl) T.g_built T.F_built.kp T.b_built .nil pass0 (pa_cons (pv 6) pa_nil)) pa_nil)))
      (pss_one (ps_if (PW.pt (pw_or (pt_not (pt_val (pe_callB call_isi (by rfl) T.z_isinstance (by decide +kernel) (pa_cons (pv 7) (pa_cons (pe_bltn (v := .ty "str") (by rfl) T.z_str (by decide +kernel) rfl) pa_nil))))) (pw_or1 (pt_cmpR op_ne (pv 7) (pe_call (ok_text T) (hr.mono (by decide)) (by rfl) T.g_text T.F_text.kp T.b_text .nil pass0 (pa_cons (pv 6) pa_nil)) (nomark _)))))
      (pss_one (ps_ret pe_bl))
      pss_nil))))
      (pss_one (ps_ret (pe_cmpR op_eq (pe_call (ok_describe T (16)) (hr.mono (by decide)) (by rfl) T.g_describe T.F_describe.kp T.b_describe .nil pass0 (pa_cons (pv 5) pa_nil)) (pe_call (ok_text T) (hr.mono (by decide)) (by rfl) T.g_text T.F_text.kp T.b_text .nil pass0 (pa_cons (pv 3) pa_nil)) (nomark _)))))))))), ?_⟩)
  · first | (obtain ⟨rfl, _⟩ := h; rfl) | (obtain ⟨_, rfl, _⟩ := h; rfl) | (obtain ⟨_, _, rfl, _⟩ := h; rfl) | (obtain ⟨_, _, _, rfl, _⟩ := h; rfl) | (obtain ⟨_, _, _, _, rfl, _⟩ := h; rfl) | (obtain ⟨_, _, _, _, _, rfl, _⟩ := h; rfl) | (obtain ⟨_, _, _, _, _, _, rfl, _⟩ := h; rfl) | (obtain ⟨_, _, _, _, _, _, _, rfl, _⟩ := h; rfl) | (obtain ⟨_, _, _, _, _, _, _, _, rfl, _⟩ := h; rfl) | (obtain ⟨_, _, _, _, _, _, _, _, _, rfl, _⟩ := h; rfl) | (obtain ⟨_, _, _, _, _, _, _, _, _, _, rfl, _⟩ := h; rfl) | (obtain ⟨_, _, _, _, _, _, _, _, _, _, _, rfl, _⟩ := h; rfl) | (obtain ⟨_, _, _, _, _, _, _, _, _, _, _, _, rfl, _⟩ := h; rfl) | (obtain ⟨_, _, _, _, _, _, _, _, _, _, _, _, _, rfl, _⟩ := h; rfl) | (obtain ⟨_, _, _, _, _, _, _, _, _, _, _, _, _, _, rfl, _⟩ := h; rfl)
  · obtain ⟨a, ns, rfl, hS, hl, k⟩ := h
    try dsimp only [cxOf, Cx.nox, Cx.wish]
    refine st_of (σ := [some _, none, none, none, none, none, none, none]) rfl ?_
    walk_at "rd"
    refine ⟨a, ns, rfl, hS, hl, fun S L H1 _ _ st1 => ?_⟩
    walk_at "rd"
    refine use_draw st1 (by decide) (by decide) (fun w0 H2 w1 w2 x2 st2 => ?_)
    walk_at "rd"
    obtain ⟨wn, hw⟩ : ∃ wn : Nat, 1 + w0 = (wn : Int) := ⟨(1 + w0).toNat, by omega⟩
    rw [hw]
    refine ⟨S, L, ns, wn, rfl, st2, by omega, by omega, fun p qs H3 _ x3 st3 pl hlen => ?_⟩
    walk_at "rd"
    refine ⟨S, L, ns, p, qs, 16, rfl, st3, pl, by omega, by omega, by decide, by decide, fun q xs ss H4 hq x4 st4 hq4 sp va hx1 hx16 => ?_⟩
    have nqS := st3.neS hq
    walk_at "rd"
    refine ⟨S, L, ns, p, qs, 16, rfl, st4, pl.ex x4, by omega, by omega, by decide, by decide, fun q' xs' ss' H5 hq' x5 st5 hq5 sp' va' hx1' hx16' => ?_⟩
    have gq5 := x5 _ _ nqS hq4
    have sp5 := sp.keep (st4.tp x5)
    walk_at "rd"
    refine ⟨q, xs, ss, qs.length, rfl, sql gq5, sp5, va, hx1, by omega, fun v t m H6 s6 ht pt hm => ?_⟩
    have gq6 := s6 _ _ gq5
    have gq6' := s6 _ _ hq5
    have sp6 := sp5.keep (.same s6)
    have sp6' := sp'.keep (.same s6)
    have bth : ∀ {G : Hp} {x : V}, Same H6 G → x = V.ref q ∨ x = V.ref q' → ∃ (q0 : Addr) (xs0 : List V) (ss0 : List Stp), x = V.ref q0 ∧ G q0 = some (.lst xs0) ∧ Stps qs.length G xs0 ss0 ∧ Valid ss0 ∧ (exs ss0).length = 1 ∧ ss0.length ≤ 16 := fun s h => by
      rcases h with rfl | rfl
      · exact ⟨_, _, _, rfl, s _ _ gq6, sp6.keep (.same s), va, hx1, by omega⟩
      · exact ⟨_, _, _, rfl, s _ _ gq6', sp6'.keep (.same s), va', hx1', by omega⟩
    walk_at "rd"
    with_reducible refine c_forList ?_
    walk_at "rd"
    intro l hl0
    walk_at "rd"
    refine ⟨⟨_, sql upd_same⟩, for_list (xs := [V.ref q, V.ref q', V.ref q]) (fun i σ G => ∃ (e6 e7 : Option V), σ = [some (.ref a), some (.ref S), some (.ref p), some (.ref q), some (.ref q'), some v, e6, e7] ∧ Same (upd H6 l (.lst [V.ref q, V.ref q', V.ref q])) G) ?_ ?_ ?_ ?_⟩
    · exact ⟨_, _, rfl, Same.refl _⟩
    · rintro i σ G _ ⟨e6, e7, rfl, sG⟩
      exact sql (sG _ _ upd_same)
    · rintro i x σ G hi ⟨e6, e7, rfl, sG⟩
      have sG6 : Same H6 G := Same.trans (same_new (Same.refl _) hl0) sG
      have hx : x = V.ref q ∨ x = V.ref q' := by
        have := List.mem_of_getElem? hi
        simp at this
        rcases this with h | h | h
        · exact .inl h
        · exact .inr h
        · exact .inl h
      obtain ⟨q0, xs0, ss0, rfl, g0, sp0, va0, h10, h16⟩ := bth sG6 hx
      walk_at "rd"
      refine ⟨q0, xs0, ss0, qs.length, rfl, sql g0, sp0, va0, h10, by omega, fun v1 t1 m1 G1 s1 ht1 pt1 hm1 => ?_⟩
      walk_at "rd"
      refine ⟨v1, t1, qs.length, m1, rfl, pt1, by omega, by omega, by decide, fun G2 s2 => ?_⟩
      walk_at "rd"
      refine r_isi (b := true) (.base (.str _)) (by decide +kernel) ?_
      walk_at "rd"
      refine i_F rfl ?_
      walk_at "rd"
      refine ⟨q0, xs0, ss0, qs.length, rfl, sql (s2 _ _ (s1 _ _ g0)), sp0.keep (.same (s1.trans s2)), by omega, va0, h10, by omega, fun t2 G3 s3 ht2 => ?_⟩
      obtain rfl : t1 = t2 := by
        rw [ht1] at ht2
        exact List.head_eq_of_cons_eq ht2
      walk_at "rd"
      refine i_F (by simp) ?_
      walk_at "rd"
      exact sG.trans ((s1.trans s2).trans s3)
    · rintro σ G ⟨e6, e7, rfl, sG⟩
      have sG6 : Same H6 G := Same.trans (same_new (Same.refl _) hl0) sG
      walk_at "rd"
      refine ⟨v, t, qs.length, m, rfl, pt.keep (.same sG6), by omega, by omega, by decide, fun G2 s2 => ?_⟩
      walk_at "rd"
      refine ⟨q, xs, ss, qs.length, rfl, sql ((sG6.trans s2) _ _ gq6), sp6.keep (.same (sG6.trans s2)), by omega, va, hx1, by omega, fun t2 G3 s3 ht2 => ?_⟩
      obtain rfl : t = t2 := by
        rw [ht] at ht2
        exact List.head_eq_of_cons_eq ht2
      walk_at "rd"
      rw [show decide (desc t = desc t) = true by simp]
      exact k _
end
end Tac3
theorem all_mk {l : PySem.W.OpenLaw} {w : World} {K : PySem.W.Frag} {h : Heap} {mg : Str → Option Value} {fa : Addr} (X : K.In h) (G : h.Ns mainGlobals mg) (hfa : mg "law" = some (.ref fa))
    {f0 : Addr} {od0 an0 : Option Addr} {sl0 : Array (Option Value)} {oc0 kV0 dc0 pm0 cd0 ct0 : Value}
    {f1 : Addr} {od1 an1 : Option Addr} {sl1 : Array (Option Value)} {oc1 kV1 dc1 pm1 cd1 ct1 : Value}
    {f2 : Addr} {od2 an2 : Option Addr} {sl2 : Array (Option Value)} {oc2 kV2 dc2 pm2 cd2 ct2 : Value}
    {f3 : Addr} {od3 an3 : Option Addr} {sl3 : Array (Option Value)} {oc3 kV3 dc3 pm3 cd3 ct3 : Value}
    {f4 : Addr} {od4 an4 : Option Addr} {sl4 : Array (Option Value)} {oc4 kV4 dc4 pm4 cd4 ct4 : Value}
    {f5 : Addr} {od5 an5 : Option Addr} {sl5 : Array (Option Value)} {oc5 kV5 dc5 pm5 cd5 ct5 : Value}
    {f6 : Addr} {od6 an6 : Option Addr} {sl6 : Array (Option Value)} {oc6 kV6 dc6 pm6 cd6 ct6 : Value}
    {f7 : Addr} {od7 an7 : Option Addr} {sl7 : Array (Option Value)} {oc7 kV7 dc7 pm7 cd7 ct7 : Value}
    {f8 : Addr} {od8 an8 : Option Addr} {sl8 : Array (Option Value)} {oc8 kV8 dc8 pm8 cd8 ct8 : Value}
    {f9 : Addr} {od9 an9 : Option Addr} {sl9 : Array (Option Value)} {oc9 kV9 dc9 pm9 cd9 ct9 : Value}
    {f10 : Addr} {od10 an10 : Option Addr} {sl10 : Array (Option Value)} {oc10 kV10 dc10 pm10 cd10 ct10 : Value}
    {c_SIGNS : Addr}
    {dd_SIGNS : Option Addr} {nn_SIGNS : Nat} {ss_SIGNS : Array (Option Value)} {t_SIGNS_0 : Tok} {t_SIGNS_1 : Tok} {t_SIGNS_2 : Tok} {t_SIGNS_3 : Tok} {t_SIGNS_4 : Tok} {t_SIGNS_5 : Tok}
    (a0 : PySem.W.nsIn K mainGlobals "parts_of" = some (some (.ref f0)))
    (l0 : K.lookup f0 = some ⟨oc0, od0, .func (PySem.W.fnOf "parts_of" "parts_of" (defArgs s_parts_of) (defBody s_parts_of) (defScope s_parts_of) .none kV0 dc0 pm0 an0 cd0 ct0), sl0⟩)
    (c0 : PySem.W.codeIn K cd0 "parts_of" = true)
    (k0 : PySem.W.keepIn K (.ref f0) = true)
    (a1 : PySem.W.nsIn K mainGlobals "describe" = some (some (.ref f1)))
    (l1 : K.lookup f1 = some ⟨oc1, od1, .func (PySem.W.fnOf "describe" "describe" (defArgs s_describe) (defBody s_describe) (defScope s_describe) .none kV1 dc1 pm1 an1 cd1 ct1), sl1⟩)
    (c1 : PySem.W.codeIn K cd1 "describe" = true)
    (k1 : PySem.W.keepIn K (.ref f1) = true)
    (a2 : PySem.W.nsIn K mainGlobals "_law_stream" = some (some (.ref f2)))
    (l2 : K.lookup f2 = some ⟨oc2, od2, .func (PySem.W.fnOf "_law_stream" "_law_stream" (defArgs s__law_stream) (defBody s__law_stream) (defScope s__law_stream) .none kV2 dc2 pm2 an2 cd2 ct2), sl2⟩)
    (c2 : PySem.W.codeIn K cd2 "_law_stream" = true)
    (k2 : PySem.W.keepIn K (.ref f2) = true)
    (a3 : PySem.W.nsIn K mainGlobals "_law_draw" = some (some (.ref f3)))
    (l3 : K.lookup f3 = some ⟨oc3, od3, .func (PySem.W.fnOf "_law_draw" "_law_draw" (defArgs s__law_draw) (defBody s__law_draw) (defScope s__law_draw) .none kV3 dc3 pm3 an3 cd3 ct3), sl3⟩)
    (c3 : PySem.W.codeIn K cd3 "_law_draw" = true)
    (k3 : PySem.W.keepIn K (.ref f3) = true)
    (a4 : PySem.W.nsIn K mainGlobals "_law_number" = some (some (.ref f4)))
    (l4 : K.lookup f4 = some ⟨oc4, od4, .func (PySem.W.fnOf "_law_number" "_law_number" (defArgs s__law_number) (defBody s__law_number) (defScope s__law_number) .none kV4 dc4 pm4 an4 cd4 ct4), sl4⟩)
    (c4 : PySem.W.codeIn K cd4 "_law_number" = true)
    (k4 : PySem.W.keepIn K (.ref f4) = true)
    (a5 : PySem.W.nsIn K mainGlobals "_law_pool" = some (some (.ref f5)))
    (l5 : K.lookup f5 = some ⟨oc5, od5, .func (PySem.W.fnOf "_law_pool" "_law_pool" (defArgs s__law_pool) (defBody s__law_pool) (defScope s__law_pool) .none kV5 dc5 pm5 an5 cd5 ct5), sl5⟩)
    (c5 : PySem.W.codeIn K cd5 "_law_pool" = true)
    (k5 : PySem.W.keepIn K (.ref f5) = true)
    (a6 : PySem.W.nsIn K mainGlobals "_law_leaf" = some (some (.ref f6)))
    (l6 : K.lookup f6 = some ⟨oc6, od6, .func (PySem.W.fnOf "_law_leaf" "_law_leaf" (defArgs s__law_leaf) (defBody s__law_leaf) (defScope s__law_leaf) .none kV6 dc6 pm6 an6 cd6 ct6), sl6⟩)
    (c6 : PySem.W.codeIn K cd6 "_law_leaf" = true)
    (k6 : PySem.W.keepIn K (.ref f6) = true)
    (a7 : PySem.W.nsIn K mainGlobals "_law_recipe" = some (some (.ref f7)))
    (l7 : K.lookup f7 = some ⟨oc7, od7, .func (PySem.W.fnOf "_law_recipe" "_law_recipe" (defArgs s__law_recipe) (defBody s__law_recipe) (defScope s__law_recipe) .none kV7 dc7 pm7 an7 cd7 ct7), sl7⟩)
    (c7 : PySem.W.codeIn K cd7 "_law_recipe" = true)
    (k7 : PySem.W.keepIn K (.ref f7) = true)
    (a8 : PySem.W.nsIn K mainGlobals "_law_built" = some (some (.ref f8)))
    (l8 : K.lookup f8 = some ⟨oc8, od8, .func (PySem.W.fnOf "_law_built" "_law_built" (defArgs s__law_built) (defBody s__law_built) (defScope s__law_built) .none kV8 dc8 pm8 an8 cd8 ct8), sl8⟩)
    (c8 : PySem.W.codeIn K cd8 "_law_built" = true)
    (k8 : PySem.W.keepIn K (.ref f8) = true)
    (a9 : PySem.W.nsIn K mainGlobals "_law_text" = some (some (.ref f9)))
    (l9 : K.lookup f9 = some ⟨oc9, od9, .func (PySem.W.fnOf "_law_text" "_law_text" (defArgs s__law_text) (defBody s__law_text) (defScope s__law_text) .none kV9 dc9 pm9 an9 cd9 ct9), sl9⟩)
    (c9 : PySem.W.codeIn K cd9 "_law_text" = true)
    (k9 : PySem.W.keepIn K (.ref f9) = true)
    (a10 : PySem.W.nsIn K mainGlobals "law" = some (some (.ref f10)))
    (l10 : K.lookup f10 = some ⟨oc10, od10, .func (PySem.W.fnOf "law" "law" (defArgs s_law) (defBody s_law) (defScope s_law) .none kV10 dc10 pm10 an10 cd10 ct10), sl10⟩)
    (c10 : PySem.W.codeIn K cd10 "law" = true)
    (k10 : PySem.W.keepIn K (.ref f10) = true)
    (g_SIGNS : PySem.W.nsIn K mainGlobals "SIGNS" = some (some (.ref c_SIGNS)))
    (l_SIGNS : K.lookup c_SIGNS = some ⟨.type "tuple", dd_SIGNS, .seq #[.str "<" t_SIGNS_0, .str "<=" t_SIGNS_1, .str "=" t_SIGNS_2, .str "!=" t_SIGNS_3, .str ">=" t_SIGNS_4, .str ">" t_SIGNS_5] nn_SIGNS, ss_SIGNS⟩)
    (z_abs : PySem.W.nsIn K mainGlobals "abs" = some none)
    (z_int : PySem.W.nsIn K mainGlobals "int" = some none)
    (z_isinstance : PySem.W.nsIn K mainGlobals "isinstance" = some none)
    (z_len : PySem.W.nsIn K mainGlobals "len" = some none)
    (z_list : PySem.W.nsIn K mainGlobals "list" = some none)
    (z_range : PySem.W.nsIn K mainGlobals "range" = some none)
    (z_str : PySem.W.nsIn K mainGlobals "str" = some none)
    (z_tuple : PySem.W.nsIn K mainGlobals "tuple" = some none) :
    ∃ fd : FuncData, (∀ (s : Shared) (v : Value), BindsTo s fd ⟨[v], []⟩ [("_law_script", v)]) ∧ ∀ base : Heap, K.In base → base.Ns mainGlobals mg → FnOk l.prog w K mg base CX0 21 fa fd ["_law_script"] (spLaw K) := by
  have e := hfa.symm.trans (PySem.W.mg_of X G a10)
  cases e
  have F0 := fun_mk (st := s_parts_of) l0 c0 k0
  have b0 := F0.binds (ps := ["predicate"]) fun _ _ _ _ _ _ us hl => match us, hl with | [_], _ => rfl
  have F1 := fun_mk (st := s_describe) l1 c1 k1
  have b1 := F1.binds (ps := ["predicate"]) fun _ _ _ _ _ _ us hl => match us, hl with | [_], _ => rfl
  have F2 := fun_mk (st := s__law_stream) l2 c2 k2
  have b2 := F2.binds (ps := ["_law_script"]) fun _ _ _ _ _ _ us hl => match us, hl with | [_], _ => rfl
  have F3 := fun_mk (st := s__law_draw) l3 c3 k3
  have b3 := F3.binds (ps := ["_law_stream_here", "_law_many"]) fun _ _ _ _ _ _ us hl => match us, hl with | [_, _], _ => rfl
  have F4 := fun_mk (st := s__law_number) l4 c4 k4
  have b4 := F4.binds (ps := ["_law_stream_here", "_law_most"]) fun _ _ _ _ _ _ us hl => match us, hl with | [_, _], _ => rfl
  have F5 := fun_mk (st := s__law_pool) l5 c5 k5
  have b5 := F5.binds (ps := ["_law_stream_here", "_law_wide"]) fun _ _ _ _ _ _ us hl => match us, hl with | [_, _], _ => rfl
  have F6 := fun_mk (st := s__law_leaf) l6 c6 k6
  have b6 := F6.binds (ps := ["_law_stream_here", "_law_pool_here"]) fun _ _ _ _ _ _ us hl => match us, hl with | [_, _], _ => rfl
  have F7 := fun_mk (st := s__law_recipe) l7 c7 k7
  have b7 := F7.binds (ps := ["_law_stream_here", "_law_pool_here", "_law_most"]) fun _ _ _ _ _ _ us hl => match us, hl with | [_, _, _], _ => rfl
  have F8 := fun_mk (st := s__law_built) l8 c8 k8
  have b8 := F8.binds (ps := ["_law_steps"]) fun _ _ _ _ _ _ us hl => match us, hl with | [_], _ => rfl
  have F9 := fun_mk (st := s__law_text) l9 c9 k9
  have b9 := F9.binds (ps := ["_law_steps"]) fun _ _ _ _ _ _ us hl => match us, hl with | [_], _ => rfl
  have F10 := fun_mk (st := s_law) l10 c10 k10
  have T : Txt K mg := { a_parts_of := _, d_parts_of := _, F_parts_of := F0, b_parts_of := b0, g_parts_of := PySem.W.mg_of X G a0, a_describe := _, d_describe := _, F_describe := F1, b_describe := b1, g_describe := PySem.W.mg_of X G a1, a_stream := _, d_stream := _, F_stream := F2, b_stream := b2, g_stream := PySem.W.mg_of X G a2, a_draw := _, d_draw := _, F_draw := F3, b_draw := b3, g_draw := PySem.W.mg_of X G a3, a_number := _, d_number := _, F_number := F4, b_number := b4, g_number := PySem.W.mg_of X G a4, a_pool := _, d_pool := _, F_pool := F5, b_pool := b5, g_pool := PySem.W.mg_of X G a5, a_leaf := _, d_leaf := _, F_leaf := F6, b_leaf := b6, g_leaf := PySem.W.mg_of X G a6, a_recipe := _, d_recipe := _, F_recipe := F7, b_recipe := b7, g_recipe := PySem.W.mg_of X G a7, a_built := _, d_built := _, F_built := F8, b_built := b8, g_built := PySem.W.mg_of X G a8, a_text := _, d_text := _, F_text := F9, b_text := b9, g_text := PySem.W.mg_of X G a9, c_SIGNS := _, g_SIGNS := PySem.W.mg_of X G g_SIGNS, l_SIGNS := fun H => .inr ⟨_, _, _, l_SIGNS, rfl, rfl, by rw [sizeLine_eq]; show 6 ≤ 16777216; decide, (.cons ⟨_, rfl⟩ (.cons ⟨_, rfl⟩ (.cons ⟨_, rfl⟩ (.cons ⟨_, rfl⟩ (.cons ⟨_, rfl⟩ (.cons ⟨_, rfl⟩ .nil))))))⟩, z_abs := PySem.W.mg_none_of X G z_abs, z_int := PySem.W.mg_none_of X G z_int, z_isinstance := PySem.W.mg_none_of X G z_isinstance, z_len := PySem.W.mg_none_of X G z_len, z_list := PySem.W.mg_none_of X G z_list, z_range := PySem.W.mg_none_of X G z_range, z_str := PySem.W.mg_none_of X G z_str, z_tuple := PySem.W.mg_none_of X G z_tuple }
  exact ⟨PySem.W.fnOf "law" "law" (defArgs s_law) (defBody s_law) (defScope s_law) .none kV10 dc10 pm10 an10 cd10 ct10, fun s v => .of_eq rfl, fun base _ _ => ok_law F10 T⟩
end Y
open PySem PySem.W PyProof.Rows
set_option maxHeartbeats 0 in
theorem PySem.Challenge.cw_wholepages_k11_described_holds : PySem.Challenge.rw_wholepages_k11_described.Holds := by
  w_on; o_law; k_head; (case hw => w_witness2)
  k_fill
  refine L2.walk_of (l := PySem.Challenge.rw_wholepages_k11_described) (n := 63) (k := 21) (x := "_law_script") (CX := fun _ => L2.CX0) (sp := fun w => Y.spLaw _) rfl (by decide) rfl ⟨rfl, by decide, by decide⟩ (fun w h Y => PySem.W.kIn_of Y) ?F (fun _ _ a ns hl _ hS => ⟨a, ns, rfl, hS, hl, fun _ => rfl⟩) (fun _ _ _ _ _ h => h)
  case F =>
    intro w mg fa h KX G hmg
    refine' Y.all_mk KX G hmg ?a0 ?l0 ?c0 ?k0 ?a1 ?l1 ?c1 ?k1 ?a2 ?l2 ?c2 ?k2 ?a3 ?l3 ?c3 ?k3 ?a4 ?l4 ?c4 ?k4 ?a5 ?l5 ?c5 ?k5 ?a6 ?l6 ?c6 ?k6 ?a7 ?l7 ?c7 ?k7 ?a8 ?l8 ?c8 ?k8 ?a9 ?l9 ?c9 ?k9 ?a10 ?l10 ?c10 ?k10 ?g_SIGNS ?l_SIGNS ?z_abs ?z_int ?z_isinstance ?z_len ?z_list ?z_range ?z_str ?z_tuple
    (case a0 => k_is); (case l0 => k_is); (case c0 => k_is); (case k0 => k_is); (case a1 => k_is); (case l1 => k_is); (case c1 => k_is); (case k1 => k_is); (case a2 => k_is); (case l2 => k_is); (case c2 => k_is); (case k2 => k_is); (case a3 => k_is); (case l3 => k_is); (case c3 => k_is); (case k3 => k_is); (case a4 => k_is); (case l4 => k_is); (case c4 => k_is); (case k4 => k_is); (case a5 => k_is); (case l5 => k_is); (case c5 => k_is); (case k5 => k_is); (case a6 => k_is); (case l6 => k_is); (case c6 => k_is); (case k6 => k_is); (case a7 => k_is); (case l7 => k_is); (case c7 => k_is); (case k7 => k_is); (case a8 => k_is); (case l8 => k_is); (case c8 => k_is); (case k8 => k_is); (case a9 => k_is); (case l9 => k_is); (case c9 => k_is); (case k9 => k_is); (case a10 => k_is); (case l10 => k_is); (case c10 => k_is); (case k10 => k_is); (case g_SIGNS => k_is); (case l_SIGNS => k_is); (case z_abs => k_is); (case z_int => k_is); (case z_isinstance => k_is); (case z_len => k_is); (case z_list => k_is); (case z_range => k_is); (case z_str => k_is); (case z_tuple => k_is)

