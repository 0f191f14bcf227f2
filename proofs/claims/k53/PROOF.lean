import PyProof.Rows.All
import Wide.All
import OpenK.AllK
import Wide.FinOn
import HandS.ForMost
import HandS.Wide
import HandS.IsInst
import HandS.EndBits
import HandS.Style
import HandS.SortInts
import HandS.Evl
import HandS.TupMul
import HandS.Conv
import HandS.Zip
import HandS.CallLocal
import PySem.Challenge.RW_wholepages_k53_exact_trees
set_option Elab.async false
set_option linter.all false
set_option maxRecDepth 100000
set_option maxHeartbeats 4000000

/-! ## Common: steps of a reading, heaps, the law's own helpers -/
namespace Y
open PySem PySem.Spec PyProof.Rows L2
/-! ### steps -/
section
variable {K : PySem.W.Frag} {σ : L2.St} {H : Hp} {D : Ends} {ta tb te tc : TE} {t u : TS} {c d : TT} {Q : VK} {R : Bool → Hp → Prop}
theorem c_seq (h : t { D with nx := u D } σ H) : tSeq t u D σ H := h
theorem st_of {t : TS} {σ0 : L2.St} (e : σ0 = σ) (h : t D σ H) : t D σ0 H := by
  rw [e]
  exact h
theorem c_next (h : D.nx σ H) : tNext D σ H := h
theorem c_asg {g : TG} (h : te σ H fun x H1 => g x σ H1 D.nx) : tAsg te g D σ H := h
theorem c_gname {i : Nat} {v : V} {Q : L2.St → Hp → Prop} (h : Q (σ.set i (some v)) H) : gName i v σ H Q := h
theorem c_gsub {to ti : TE} {s : TSet} {v : V} {Q : L2.St → Hp → Prop} (h : to σ H fun o H1 => ti σ H1 fun i H2 => s o i v H2 fun H3 => Q σ H3) : gSub to ti s v σ H Q := h
theorem c_drop (h : te σ H fun _ H1 => D.nx σ H1) : tDrop te D σ H := h
theorem c_ret (h : te σ H D.rt) : tRet te D σ H := h
theorem c_retN (h : D.rt .non H) : tRetN D σ H := h
theorem c_ifs (h : c σ H fun b H1 => if b = true then t D σ H1 else u D σ H1) : tIfS c t u D σ H := h
theorem c_var {i : Nat} {v : V} (e : σ[i]? = some (some v)) (h : Q v H) : tVar i σ H Q := ⟨v, e, h⟩
theorem c_c {v : V} (h : Q v H) : tC v σ H Q := h
theorem c_op {r : R2} (h : ta σ H fun x H1 => tb σ H1 fun y H2 => r x y H2 Q) : tOp r ta tb σ H Q := h
theorem c_un {r : V → Hp → VK → Prop} (h : ta σ H fun x H1 => r x H1 Q) : tUn r ta σ H Q := h
theorem c_test (h : te σ H fun x H1 => ∃ k, x = .bl k ∧ R k H1) : tTest te σ H R := h
theorem c_B (h : te σ H fun x H1 => ∃ k, x = .bl k ∧ R k H1) : tB te σ H R := h
theorem c_bl {k : Bool} (h : R k H) : ∃ k', V.bl k = .bl k' ∧ R k' H := ⟨k, rfl, h⟩
theorem c_and (h : c σ H fun b H1 => if b = true then d σ H1 R else R false H1) : tAnd c d σ H R := h
theorem c_or (h : c σ H fun b H1 => if b = true then R true H1 else d σ H1 R) : tOr c d σ H R := h
theorem c_not (h : c σ H fun b H1 => R (!b) H1) : tNot c σ H R := h
theorem c_andV (h : ta σ H fun x H1 => ∃ b, x = .bl b ∧ if b = true then tb σ H1 Q else Q (.bl false) H1) : tAndV ta tb σ H Q := h
theorem c_orV (h : ta σ H fun x H1 => ∃ b, x = .bl b ∧ if b = true then Q (.bl true) H1 else tb σ H1 Q) : tOrV ta tb σ H Q := h
theorem c_notV (h : ta σ H fun x H1 => ∃ b, x = .bl b ∧ Q (.bl (!b)) H1) : tNotV ta σ H Q := h
theorem c_if (h : c σ H fun b H1 => if b = true then ta σ H1 Q else tb σ H1 Q) : tIf c ta tb σ H Q := h
theorem c_CB {r : List V → Hp → VK → Prop} {t : TA} (h : t σ H fun vs H1 => r vs H1 Q) : tCB r t σ H Q := h
theorem c_nil {Q : List V → Hp → Prop} (h : Q [] H) : tNil σ H Q := h
theorem c_cons {tr : TA} {Q : List V → Hp → Prop} (h : ta σ H fun x H1 => tr σ H1 fun xs H2 => Q (x :: xs) H2) : tCons ta tr σ H Q := h
theorem c_call {sp : Sp} {dvs : List V} {E : XK} {t : TA} (h : t σ H fun vs H1 => sp (vs ++ dvs) H1 Q E) : tCall sp dvs E t σ H Q := h
theorem c_lst {t : TA} (h : t σ H fun xs H1 => xs.length ≤ sizeLine ∧ ∀ p, H1 p = none → Q (.ref p) (upd H1 p (.lst xs))) : tLst t σ H Q := h
theorem c_tup {t : TA} (h : t σ H fun xs H1 => xs.length ≤ sizeLine ∧ ∀ p, H1 p = none → Q (.ref p) (upd H1 p (.tup xs))) : tTup t σ H Q := h
theorem c_BM {T : String} {r : V → List V → Hp → VK → Prop} {to : TE} {t : TA} (h : to σ H fun x H1 => tyV K T x H1 ∧ t σ H1 fun xs H2 => r x xs H2 Q) : tBM K T r to t σ H Q := h
theorem c_BM0 {T : String} {r : V → List V → Hp → VK → Prop} {to : TE} (h : to σ H fun x H1 => tyV K T x H1 ∧ r x [] H1 Q) : tBM0 K T r to σ H Q := h
theorem c_chain {r r' : R2} (h : ta σ H fun x H1 => tb σ H1 fun y H2 => r x y H2 fun z H3 => ∃ k, z = .bl k ∧ if k = true then tc σ H3 fun w H4 => r' y w H4 Q else Q (.bl false) H3) : tChain r r' ta tb tc σ H Q := h
theorem c_for {wi : TI} {g : TG} {D : Ends} {xs : List V} {a : Addr} (hx : SqL K H a xs)
    (h : ∃ W : Nat → Nat → L2.St → Hp → Prop, (∃ m, W 0 m σ H) ∧ ∀ i m σ H, W i m σ H →
      ((Itl K a).stop i H ∧ D.nx σ H) ∨ ((Itl K a).go i H ∧ ∃ N : L2.St → Hp → Prop, (∀ σ' H', N σ' H' → ∃ m', m' < m ∧ W (i + 1) m' σ' H') ∧ ∀ x H', (Itl K a).yld i H x H' → g x σ H' fun σ2 H2 => t { D with nx := N, ct := N, bk := D.nx } σ2 H2)) :
    ∃ a', V.ref a = .ref a' ∧ (∃ xs, SqL K H a' xs) ∧ ∃ W : Nat → Nat → L2.St → Hp → Prop, (∃ m, W 0 m σ H) ∧ ∀ i m σ H, W i m σ H →
      ((Itl K a').stop i H ∧ D.nx σ H) ∨ ((Itl K a').go i H ∧ ∃ N : L2.St → Hp → Prop, (∀ σ' H', N σ' H' → ∃ m', m' < m ∧ W (i + 1) m' σ' H') ∧ ∀ x H', (Itl K a').yld i H x H' → g x σ H' fun σ2 H2 => t { D with nx := N, ct := N, bk := D.nx } σ2 H2) := ⟨a, rfl, ⟨xs, hx⟩, h⟩
/-- for x in xs, by what holds ahead of each turn -/
theorem c_forL {tl : TE} {g : TG} (h : tl σ H fun x H1 => ∃ a xs, x = .ref a ∧ SqL K H1 a xs ∧ ∃ Pv : Nat → L2.St → Hp → Prop, Pv 0 σ H1 ∧ (∀ i σ H, i ≤ xs.length → Pv i σ H → SqL K H a xs) ∧
      (∀ i x σ H, xs[i]? = some x → Pv i σ H → g x σ H fun σ2 H2 => t { D with nx := Pv (i + 1), ct := Pv (i + 1), bk := D.nx } σ2 H2) ∧ (∀ σ H, Pv xs.length σ H → D.nx σ H))
    (mono : ∀ Q Q' : VK, (∀ v H, Q v H → Q' v H) → tl σ H Q → tl σ H Q') : tFor (iList K tl) g t D σ H := by
  refine mono _ _ (fun v H1 h => ?_) h
  obtain ⟨a, xs, rfl, hx, Pv, h0, hl, hs, hd⟩ := h
  exact ⟨a, rfl, ⟨xs, hx⟩, for_list (xs := xs) Pv h0 hl hs hd⟩
theorem c_rng1 {ta : TA} {g : TG} (h : ta σ H fun vs H1 => ∃ j : Int, vs = [.int j] ∧ -(2 ^ 62) ≤ j ∧ j < 2 ^ 62 ∧ ∃ W : Nat → Nat → L2.St → Hp → Prop, (∃ m, W 0 m σ H1) ∧ ∀ i m σ H, W i m σ H →
      ((Itr 0 j.toNat).stop i H ∧ D.nx σ H) ∨ ((Itr 0 j.toNat).go i H ∧ ∃ N : L2.St → Hp → Prop, (∀ σ' H', N σ' H' → ∃ m', m' < m ∧ W (i + 1) m' σ' H') ∧ ∀ x H', (Itr 0 j.toNat).yld i H x H' → g x σ H' fun σ2 H2 => t { D with nx := N, ct := N, bk := D.nx } σ2 H2)) :
    tFor (iRng1 ta) g t D σ H := h
theorem c_forList {tl : TE} {g : TG} (h : tl σ H fun x H1 => ∃ a, x = .ref a ∧ (∃ xs, SqL K H1 a xs) ∧ ∃ W : Nat → Nat → L2.St → Hp → Prop, (∃ m, W 0 m σ H1) ∧ ∀ i m σ H, W i m σ H →
      ((Itl K a).stop i H ∧ D.nx σ H) ∨ ((Itl K a).go i H ∧ ∃ N : L2.St → Hp → Prop, (∀ σ' H', N σ' H' → ∃ m', m' < m ∧ W (i + 1) m' σ' H') ∧ ∀ x H', (Itl K a).yld i H x H' → g x σ H' fun σ2 H2 => t { D with nx := N, ct := N, bk := D.nx } σ2 H2)) :
    tFor (iList K tl) g t D σ H := h
theorem c_forTup {tl : TE} {g : TG} (h : tl σ H fun x H1 => ∃ a, x = .ref a ∧ (∃ xs, SqT K H1 a xs) ∧ ∃ W : Nat → Nat → L2.St → Hp → Prop, (∃ m, W 0 m σ H1) ∧ ∀ i m σ H, W i m σ H →
      ((Itt K a).stop i H ∧ D.nx σ H) ∨ ((Itt K a).go i H ∧ ∃ N : L2.St → Hp → Prop, (∀ σ' H', N σ' H' → ∃ m', m' < m ∧ W (i + 1) m' σ' H') ∧ ∀ x H', (Itt K a).yld i H x H' → g x σ H' fun σ2 H2 => t { D with nx := N, ct := N, bk := D.nx } σ2 H2)) :
    tFor (iTup K tl) g t D σ H := h
/-! operators by values -/
theorem r_I0 {g : Int → Int → V} {i j : Int} (h : Q (g i j) H) : rI0 g (.int i) (.int j) H Q := ⟨i, j, rfl, rfl, h⟩
theorem r_I {C : Int → Int → Prop} {g : Int → Int → V} {i j : Int} (hc : C i j) (h : Q (g i j) H) : rI C g (.int i) (.int j) H Q := ⟨i, j, rfl, rfl, hc, h⟩
theorem r_U {g : Int → V} {i : Int} (h : Q (g i) H) : rU g (.int i) H Q := ⟨i, rfl, h⟩
theorem dec_int {i j : Int} : decide (V.int i = V.int j) = decide (i = j) := by
  by_cases h : i = j
  · rw [decide_eq_true h, h, decide_eq_true rfl]
  · rw [decide_eq_false h, decide_eq_false fun z => h (V.int.inj z)]
theorem dec_bl {i j : Bool} : decide (V.bl i = V.bl j) = decide (i = j) := by cases i <;> cases j <;> rfl
theorem dec_str {i j : Str} : decide (V.str i = V.str j) = decide (i = j) := by
  by_cases h : i = j
  · rw [decide_eq_true h, h, decide_eq_true rfl]
  · rw [decide_eq_false h, decide_eq_false fun z => h (V.str.inj z)]
theorem r_eqI {i j : Int} (h : Q (.bl (decide (i = j))) H) : rEq (.int i) (.int j) H Q := ⟨rfl, by rw [dec_int]; exact h⟩
theorem r_neI {i j : Int} (h : Q (.bl (!decide (i = j))) H) : rNe (.int i) (.int j) H Q := ⟨rfl, by rw [dec_int]; exact h⟩
theorem r_eqB {i j : Bool} (h : Q (.bl (decide (i = j))) H) : rEq (.bl i) (.bl j) H Q := ⟨rfl, by rw [dec_bl]; exact h⟩
theorem r_neB {i j : Bool} (h : Q (.bl (!decide (i = j))) H) : rNe (.bl i) (.bl j) H Q := ⟨rfl, by rw [dec_bl]; exact h⟩
theorem r_eqS {i j : Str} (h : Q (.bl (decide (i = j))) H) : rEq (.str i) (.str j) H Q := ⟨rfl, by rw [dec_str]; exact h⟩
theorem r_neS {i j : Str} (h : Q (.bl (!decide (i = j))) H) : rNe (.str i) (.str j) H Q := ⟨rfl, by rw [dec_str]; exact h⟩
theorem r_isN {x : V} (h : Q (.bl (decide (x = .non))) H) : (fun (x y : V) (H : Hp) (Q : VK) => y = .non ∧ Q (.bl (decide (x = .non))) H) x .non H Q := ⟨rfl, h⟩
theorem r_ixL {p : Addr} {xs : List V} {i : Int} {v : V} (hx : SqL K H p xs) (ha : atI xs i = some v) (h : Q v H) : rIxL K (.ref p) (.int i) H Q := ⟨p, xs, i, v, rfl, rfl, hx, ha, h⟩
theorem r_ixT {p : Addr} {xs : List V} {i : Int} {v : V} (hx : SqT K H p xs) (ha : atI xs i = some v) (h : Q v H) : rIxT K (.ref p) (.int i) H Q := ⟨p, xs, i, v, rfl, rfl, hx, ha, h⟩
theorem r_inL {n : Bool} {p : Addr} {x : V} {xs : List V} (hx : SqL K H p xs) (h1 : flatV x = true) (h2 : xs.all flatV = true) (h : Q (.bl (if n then !inV x xs else inV x xs)) H) : rIn K n x (.ref p) H Q := ⟨p, xs, rfl, .inl hx, h1, h2, h⟩
theorem r_inT {n : Bool} {p : Addr} {x : V} {xs : List V} (hx : SqT K H p xs) (h1 : flatV x = true) (h2 : xs.all flatV = true) (h : Q (.bl (if n then !inV x xs else inV x xs)) H) : rIn K n x (.ref p) H Q := ⟨p, xs, rfl, .inr hx, h1, h2, h⟩
theorem r_lenL {p : Addr} {xs : List V} (hx : SqL K H p xs) (h : Q (.int xs.length) H) : (fun (xs : List V) (H : Hp) (Q : VK) => ∃ p ys, xs = [.ref p] ∧ (SqL K H p ys ∨ SqT K H p ys) ∧ Q (.int ys.length) H) [.ref p] H Q := ⟨p, xs, rfl, .inl hx, h⟩
theorem r_lenT {p : Addr} {xs : List V} (hx : SqT K H p xs) (h : Q (.int xs.length) H) : (fun (xs : List V) (H : Hp) (Q : VK) => ∃ p ys, xs = [.ref p] ∧ (SqL K H p ys ∨ SqT K H p ys) ∧ Q (.int ys.length) H) [.ref p] H Q := ⟨p, xs, rfl, .inr hx, h⟩
theorem r_app {p : Addr} {xs : List V} {y : V} (hx : H p = some (.lst xs)) (hl : xs.length < sizeLine) (h : Q .non (upd H p (.lst (xs ++ [y])))) : rAppend (.ref p) [y] H Q := ⟨p, xs, y, rfl, rfl, hx, hl, h⟩
theorem r_pop {p : Addr} {xs : List V} {y : V} (hx : H p = some (.lst (xs ++ [y]))) (h : Q y (upd H p (.lst xs))) : rPop (.ref p) [] H Q :=
  ⟨p, xs ++ [y], y, rfl, rfl, hx, by simp, by rw [List.dropLast_concat]; exact h⟩
theorem r_setL {p : Addr} {xs : List V} {i : Int} {j : Nat} {v : V} {Q : Hp → Prop} (hx : H p = some (.lst xs)) (hj : ixN xs.length i = some j) (h : Q (upd H p (.lst (xs.set j v)))) : rSetL (.ref p) (.int i) v H Q := ⟨p, xs, i, j, rfl, rfl, hx, hj, h⟩
theorem r_pow18 {H : Hp} {Q : VK} (h : Q (.int 1000000000000000000) H) : rI CPow (fun i j => .int (i ^ j.toNat)) (.int 10) (.int 18) H Q := r_I ⟨by decide, by decide, by decide⟩ h
theorem r_pow17 {H : Hp} {Q : VK} (h : Q (.int 100000000000000000) H) : rI CPow (fun i j => .int (i ^ j.toNat)) (.int 10) (.int 17) H Q := r_I ⟨by decide, by decide, by decide⟩ h
theorem ixn {n j : Nat} (h : j < n) : ixN n (j : Int) = some j := by
  unfold ixN
  rw [if_pos (by omega), if_pos (by omega)]
  rfl
theorem map_at {ns : List Int} {i : Nat} (h : i < ns.length) : (ns.map V.int)[i]? = some (.int ns[i]) := by
  rw [List.getElem?_map, List.getElem?_eq_getElem h]
  rfl
theorem r_tyL {p : Addr} {xs : List V} (hx : SqL K H p xs) {B : Prop} (h : B) : tyV K "list" (.ref p) H ∧ B := ⟨.inl ⟨rfl, _, hx⟩, h⟩
end
/-! ### tests -/
theorem i_T {b : Bool} {A B : Prop} (hb : b = true) (h : A) : if b = true then A else B := by
  rw [if_pos hb]
  exact h
theorem i_F {b : Bool} {A B : Prop} (hb : b = false) (h : B) : if b = true then A else B := by
  rw [hb, if_neg Bool.false_ne_true]
  exact h
theorem i_2 {b : Bool} {A B : Prop} (h1 : b = true → A) (h2 : b = false → B) : if b = true then A else B := by
  cases b with
  | true => exact i_T rfl (h1 rfl)
  | false => exact i_F rfl (h2 rfl)
theorem i_d {p : Prop} [Decidable p] {A B : Prop} (h1 : p → A) (h2 : ¬ p → B) : if decide p = true then A else B := by
  by_cases h : p
  · exact i_T (decide_eq_true h) (h1 h)
  · exact i_F (decide_eq_false h) (h2 h)
theorem i_n {p : Prop} [Decidable p] {A B : Prop} (h1 : ¬ p → A) (h2 : p → B) : if (!decide p) = true then A else B := by
  by_cases h : p
  · exact i_F (by rw [decide_eq_true h]; rfl) (h2 h)
  · exact i_T (by rw [decide_eq_false h]; rfl) (h1 h)
theorem small {n : Nat} (h : n ≤ 100000) : n ≤ sizeLine := Nat.le_trans h (by decide)
theorem smallLt {n : Nat} (h : n < 100000) : n < sizeLine := Nat.lt_of_lt_of_le h (by decide)
/-! ### heaps: what stays but at S -/
def Ex (S : Addr) (H H' : Hp) : Prop := ∀ a o, a ≠ S → H a = some o → H' a = some o
theorem Ex.refl (S : Addr) (H : Hp) : Ex S H H := fun _ _ _ h => h
theorem Ex.trans {S : Addr} {H H1 H2 : Hp} (a : Ex S H H1) (b : Ex S H1 H2) : Ex S H H2 := fun x o n h => b x o n (a x o n h)
theorem Ex.new {S : Addr} {H H1 : Hp} {p : Addr} {o : HO} (e : Ex S H H1) (h : H1 p = none) : Ex S H (upd H1 p o) := fun a u n ha => by
  rw [upd_ne (ne_of_none (e a u n ha) h)]
  exact e a u n ha
theorem Ex.mut {S : Addr} {H H1 : Hp} {p : Addr} {o : HO} (e : Ex S H H1) (h : H p = none) : Ex S H (upd H1 p o) := fun a u n ha => by
  rw [upd_ne (ne_of_none ha h)]
  exact e a u n ha
theorem Ex.at {S : Addr} {H H1 : Hp} {o : HO} (e : Ex S H H1) : Ex S H (upd H1 S o) := fun a u n ha => by
  rw [upd_ne n]
  exact e a u n ha
theorem Ex.same {S : Addr} {H H1 H2 : Hp} (e : Ex S H H1) (s : Same H1 H2) : Ex S H H2 := fun a u n ha => s a u (e a u n ha)
theorem same_new {H H1 : Hp} {p : Addr} {o : HO} (e : Same H H1) (h : H1 p = none) : Same H (upd H1 p o) := fun a u ha => by
  rw [upd_ne (ne_of_none (e a u ha) h)]
  exact e a u ha
theorem same_mut {H H1 : Hp} {p : Addr} {o : HO} (e : Same H H1) (h : H p = none) : Same H (upd H1 p o) := fun a u ha => by
  rw [upd_ne (ne_of_none ha h)]
  exact e a u ha
theorem same_tup {K : PySem.W.Frag} {H H' : Hp} {a : Addr} {xs : List V} (e : Same H H') (h : SqT K H a xs) : SqT K H' a xs := by
  rcases h with (h | ⟨o, h⟩) | h
  · exact .inl (.inl (e _ _ h))
  · exact .inl (.inr ⟨o, e _ _ h⟩)
  · exact .inr h
theorem Ex.seq {K : PySem.W.Frag} {S : Addr} {H H' : Hp} {a : Addr} {xs : List V} (e : Ex S H H') (n : a ≠ S) (h : SqL K H a xs) : SqL K H' a xs := by
  rcases h with (h | ⟨o, h⟩) | h
  · exact .inl (.inl (e _ _ n h))
  · exact .inl (.inr ⟨o, e _ _ n h⟩)
  · exact .inr h
theorem Ex.tup {K : PySem.W.Frag} {S : Addr} {H H' : Hp} {a : Addr} {xs : List V} (e : Ex S H H') (n : a ≠ S) (h : SqT K H a xs) : SqT K H' a xs := by
  rcases h with (h | ⟨o, h⟩) | h
  · exact .inl (.inl (e _ _ n h))
  · exact .inl (.inr ⟨o, e _ _ n h⟩)
  · exact .inr h
theorem sql {K : PySem.W.Frag} {H : Hp} {a : Addr} {xs : List V} (h : H a = some (.lst xs)) : SqL K H a xs := .inl (.inl h)
theorem sqt {K : PySem.W.Frag} {H : Hp} {a : Addr} {xs : List V} (h : H a = some (.tup xs)) : SqT K H a xs := .inl (.inl h)

theorem seq' {K : PySem.W.Frag} {H H' : Hp} {a : Addr} {xs : List V} (h : SqL K H a xs) (e : Same H H') : SqL K H' a xs := e.seq h
theorem tup' {K : PySem.W.Frag} {H H' : Hp} {a : Addr} {xs : List V} (h : SqT K H a xs) (e : Same H H') : SqT K H' a xs := same_tup e h
theorem same_at {H H' : Hp} {a : Addr} {o : HO} (e : Same H H') (h : H a = some o) : H' a = some o := e _ _ h
theorem ex_at {S : Addr} {H H' : Hp} {a : Addr} {o : HO} (e : Ex S H H') (n : a ≠ S) (h : H a = some o) : H' a = some o := e _ _ n h
theorem ne_nn {H : Hp} {a b : Addr} {o : HO} (h' : H b = none) (h : H a = some o) : a ≠ b := ne_of_none h h'
theorem ne_nn' {H : Hp} {a b : Addr} {o : HO} (h' : H b = none) (h : H a = some o) : b ≠ a := (ne_of_none h h').symm
section
variable {K : PySem.W.Frag} {σ : L2.St} {H : Hp} {tb te : TE} {c : TT} {Q : VK} {g : TG} {vs : List Nat}
theorem c_lcT (h : te σ H fun x H1 => ∃ a, x = .ref a ∧ (∃ xs, SqT K H1 a xs) ∧ ∀ D, H1 D = none → ∃ W : Nat → Nat → Hp → Prop, (∃ m, W 0 m (upd H1 D (.lst []))) ∧ ∀ i m G, W i m G →
      ((Itt K a).stop i G ∧ Q (.ref D) G) ∨ ((Itt K a).go i G ∧ ∃ Nx : Hp → Prop, (∀ G', Nx G' → ∃ m', m' < m ∧ W (i + 1) m' G') ∧ ∀ x G', (Itt K a).yld i G x G' → g x (wipe σ vs) G' fun σ2 H2 => wipe σ2 vs = wipe σ vs ∧ c σ2 H2 fun b H3 =>
        if b = true then tb σ2 H3 fun y H4 => ∃ acc, H4 D = some (.lst acc) ∧ acc.length < sizeLine ∧ Nx (upd H4 D (.lst (acc ++ [y]))) else Nx H3)) : tLc (iTup K te) g c tb vs σ H Q := h
theorem c_lcL (h : te σ H fun x H1 => ∃ a, x = .ref a ∧ (∃ xs, SqL K H1 a xs) ∧ ∀ D, H1 D = none → ∃ W : Nat → Nat → Hp → Prop, (∃ m, W 0 m (upd H1 D (.lst []))) ∧ ∀ i m G, W i m G →
      ((Itl K a).stop i G ∧ Q (.ref D) G) ∨ ((Itl K a).go i G ∧ ∃ Nx : Hp → Prop, (∀ G', Nx G' → ∃ m', m' < m ∧ W (i + 1) m' G') ∧ ∀ x G', (Itl K a).yld i G x G' → g x (wipe σ vs) G' fun σ2 H2 => wipe σ2 vs = wipe σ vs ∧ c σ2 H2 fun b H3 =>
        if b = true then tb σ2 H3 fun y H4 => ∃ acc, H4 D = some (.lst acc) ∧ acc.length < sizeLine ∧ Nx (upd H4 D (.lst (acc ++ [y]))) else Nx H3)) : tLc (iList K te) g c tb vs σ H Q := h
theorem c_lcR {ta : TA} (h : ta σ H fun us H1 => ∃ j : Int, us = [.int j] ∧ -(2 ^ 62) ≤ j ∧ j < 2 ^ 62 ∧ ∀ D, H1 D = none → ∃ W : Nat → Nat → Hp → Prop, (∃ m, W 0 m (upd H1 D (.lst []))) ∧ ∀ i m G, W i m G →
      ((Itr 0 j.toNat).stop i G ∧ Q (.ref D) G) ∨ ((Itr 0 j.toNat).go i G ∧ ∃ Nx : Hp → Prop, (∀ G', Nx G' → ∃ m', m' < m ∧ W (i + 1) m' G') ∧ ∀ x G', (Itr 0 j.toNat).yld i G x G' → g x (wipe σ vs) G' fun σ2 H2 => wipe σ2 vs = wipe σ vs ∧ c σ2 H2 fun b H3 =>
        if b = true then tb σ2 H3 fun y H4 => ∃ acc, H4 D = some (.lst acc) ∧ acc.length < sizeLine ∧ Nx (upd H4 D (.lst (acc ++ [y]))) else Nx H3)) : tLc (iRng1 ta) g c tb vs σ H Q := h
theorem c_yes {R : Bool → Hp → Prop} (h : R true H) : tYes σ H R := h
theorem in_bl (b : Bool) : ∀ bs : List Bool, inV (.bl b) (bs.map V.bl) = bs.contains b
  | [] => rfl
  | x :: r => by
    have ih := in_bl b r
    unfold inV at ih ⊢
    rw [List.map_cons, List.any_cons, ih, List.contains_cons]
    congr 1
    cases b <;> cases x <;> rfl
theorem flat_bl : ∀ bs : List Bool, (bs.map V.bl).all flatV = true
  | [] => rfl
  | x :: r => by
    rw [List.map_cons, List.all_cons, flat_bl r]
    rfl
end
/-! x is True, x is False where x may be None -/
def rIsW : R2 := fun x y H Q => ∃ b : Bool, y = .bl b ∧ (x = .non ∨ ∃ a, x = .bl a) ∧ Q (.bl (decide (x = .bl b))) H
def rNotW : R2 := fun x y H Q => ∃ b : Bool, y = .bl b ∧ (x = .non ∨ ∃ a, x = .bl a) ∧ Q (.bl (!decide (x = .bl b))) H
theorem op_isW {X : Cx} : OpR X (compareOp .Is) rIsW := by
  intro pins s σ H x y v u Q I rx ry h
  obtain ⟨b, rfl, hx, q⟩ := h
  cases (show u = Value.bool b from ry)
  rcases hx with rfl | ⟨a, rfl⟩
  · cases (show v = Value.none from rx)
    exact wpAny_is_other rfl (fun z => nomatch z) ⟨.bl false, H, I, rfl, by simpa using q⟩
  · cases (show v = Value.bool a from rx)
    by_cases e : a = b
    · subst e
      exact wpAny_is_self rfl ⟨.bl true, H, I, rfl, by simpa using q⟩
    · exact wpAny_is_other rfl (fun z => e (Value.bool.inj z)) ⟨.bl false, H, I, rfl, by simpa [e] using q⟩
theorem op_notW {X : Cx} : OpR X (compareOp .IsNot) rNotW := by
  intro pins s σ H x y v u Q I rx ry h
  obtain ⟨b, rfl, hx, q⟩ := h
  cases (show u = Value.bool b from ry)
  rcases hx with rfl | ⟨a, rfl⟩
  · cases (show v = Value.none from rx)
    exact wpAny_isNot_other rfl (fun z => nomatch z) ⟨.bl true, H, I, rfl, by simpa using q⟩
  · cases (show v = Value.bool a from rx)
    by_cases e : a = b
    · subst e
      exact wpAny_isNot_self rfl ⟨.bl false, H, I, rfl, by simpa using q⟩
    · exact wpAny_isNot_other rfl (fun z => e (Value.bool.inj z)) ⟨.bl true, H, I, rfl, by simpa [e] using q⟩
theorem r_isW {x : V} {b : Bool} {H : Hp} {Q : VK} (hx : x = .non ∨ ∃ a, x = .bl a) (q : Q (.bl (decide (x = .bl b))) H) : rIsW x (.bl b) H Q := ⟨b, rfl, hx, q⟩
theorem r_notW {x : V} {b : Bool} {H : Hp} {Q : VK} (hx : x = .non ∨ ∃ a, x = .bl a) (q : Q (.bl (!decide (x = .bl b))) H) : rNotW x (.bl b) H Q := ⟨b, rfl, hx, q⟩

/-! ### more steps: slices, truths that may be None, what is no list stays -/
section
variable {K : PySem.W.Frag} {σ : L2.St} {H : Hp} {ta te : TE} {Q : VK}
theorem c_sl {r : V → Option Int → Option Int → Hp → VK → Prop} {tl th : TO} (h : te σ H fun x H1 => tl σ H1 fun l H2 => th σ H2 fun u H3 => r x l u H3 Q) : tSl r te tl th σ H Q := h
theorem c_noPart {Q : Option Int → Hp → Prop} (h : Q none H) : tNoPart σ H Q := h
theorem c_part {Q : Option Int → Hp → Prop} (h : te σ H fun x H1 => ∃ i, x = .int i ∧ Q (some i) H1) : tPart te σ H Q := h
theorem r_slL {p : Addr} {xs : List V} {lo hi : Option Int} (hx : SqL K H p xs) (h : ∀ q, H q = none → Q (.ref q) (upd H q (.lst (cutV xs lo hi)))) : rSlL K (.ref p) lo hi H Q := ⟨p, xs, rfl, hx, h⟩
theorem r_slT {p : Addr} {xs : List V} {lo hi : Option Int} (hx : SqT K H p xs) (hn : ¬ (HT.sIx xs.length 0 lo = 0 ∧ HT.sIx xs.length xs.length hi = xs.length)) (h : ∀ q, H q = none → Q (.ref q) (upd H q (.tup (cutV xs lo hi)))) : rSlT K (.ref p) lo hi H Q := ⟨p, xs, rfl, hx, hn, h⟩
theorem r_cat {p q : Addr} {xs ys : List V} (hx : H p = some (.lst xs)) (hy : H q = some (.lst ys)) (hl : xs.length + ys.length ≤ sizeLine) (h : ∀ r, H r = none → Q (.ref r) (upd H r (.lst (xs ++ ys)))) : rCat (.ref p) (.ref q) H Q := ⟨p, q, xs, ys, rfl, rfl, hx, hy, hl, h⟩
theorem r_catT {p q : Addr} {xs ys : List V} (hx : SqT K H p xs) (hy : SqT K H q ys) (hn : xs ≠ []) (hl : xs.length + ys.length ≤ sizeLine) (h1 : ys = [] → Q (.ref p) H) (h2 : ys ≠ [] → ∀ r, H r = none → Q (.ref r) (upd H r (.tup (xs ++ ys)))) : rCatT K (.ref p) (.ref q) H Q := ⟨p, q, xs, ys, rfl, rfl, hx, hy, hn, hl, h1, h2⟩
end
/-- a truth: None, or a bool -/
def tb : Option Bool → V
  | none => .non
  | some b => .bl b
theorem in_tb (x : Option Bool) : ∀ bs : List (Option Bool), inV (tb x) (bs.map tb) = bs.contains x
  | [] => rfl
  | y :: r => by
    have ih := in_tb x r
    unfold inV at ih ⊢
    rw [List.map_cons, List.any_cons, ih, List.contains_cons]
    congr 1
    rcases x with _ | x <;> rcases y with _ | y <;> first | rfl | (cases x <;> rfl) | (cases y <;> rfl) | (cases x <;> cases y <;> rfl)
theorem flat_tb : ∀ bs : List (Option Bool), (bs.map tb).all flatV = true
  | [] => rfl
  | x :: r => by
    rw [List.map_cons, List.all_cons, flat_tb r]
    cases x <;> rfl
theorem tb_or (x : Option Bool) : tb x = .non ∨ ∃ a, tb x = .bl a := by
  cases x with
  | none => exact .inl rfl
  | some b => exact .inr ⟨b, rfl⟩
theorem tb_true (x : Option Bool) : decide (tb x = .bl true) = decide (x = some true) := by
  rcases x with _ | x
  · simp [tb]
  · cases x <;> simp [tb]
/-- what is no list stays -/
def Tp (H H' : Hp) : Prop := ∀ a o, H a = some o → (∀ ys, o ≠ .lst ys) → H' a = some o
theorem Tp.refl (H : Hp) : Tp H H := fun _ _ h _ => h
theorem Tp.trans {H H1 H2 : Hp} (a : Tp H H1) (b : Tp H1 H2) : Tp H H2 := fun x o h n => b x o (a x o h n) n
theorem Tp.same {H H1 : Hp} (s : Same H H1) : Tp H H1 := fun x o h _ => s x o h
theorem Tp.ex {S : Addr} {H H1 : Hp} {xs : List V} (e : Ex S H H1) (h : H S = some (.lst xs)) : Tp H H1 := fun x o hx n => e x o (fun z => by
  subst z
  rw [h] at hx
  exact n _ (Option.some.inj hx).symm) hx
theorem Tp.lst {H H1 : Hp} {p : Addr} {xs : List V} {o : HO} (e : Tp H H1) (h : H1 p = some (.lst xs)) : Tp H (upd H1 p o) := fun x u hx n => by
  have h2 := e x u hx n
  by_cases z : x = p
  · subst z
    rw [h] at h2
    exact absurd (Option.some.inj h2).symm (n _)
  · rw [upd_ne z]
    exact h2
theorem Tp.new {H H1 : Hp} {p : Addr} {o : HO} (e : Tp H H1) (h : H1 p = none) : Tp H (upd H1 p o) := fun x u hx n => by
  have h2 := e x u hx n
  rw [upd_ne (ne_of_none h2 h)]
  exact h2
theorem Tp.tup {K : PySem.W.Frag} {H H' : Hp} {a : Addr} {xs : List V} (e : Tp H H') (h : SqT K H a xs) : SqT K H' a xs := by
  rcases h with (h | ⟨o, h⟩) | h
  · exact .inl (.inl (e _ _ h (fun _ z => nomatch z)))
  · exact .inl (.inr ⟨o, e _ _ h (fun _ z => nomatch z)⟩)
  · exact .inr h
theorem Ex.free {S : Addr} {H H' : Hp} {q : Addr} (e : Ex S H H') (n : q ≠ S) (h : H' q = none) : H q = none := by
  cases z : H q with
  | none => rfl
  | some o =>
    have := e _ _ n z
    rw [h] at this
    cases this
/-! a test's outcome said by itself -/
def tMid (t : TT) : TT := fun σ H R => ∃ M : Bool → Hp → Prop, t σ H M ∧ ∀ b H', M b H' → R b H'
theorem pt_mid {X : Cx} {e : Expr} {t : TT} (h : PT X e t) : PT X e (tMid t) := ⟨fun pins s σ H Q I ⟨M, hm, k⟩ => thn (h.run pins s σ H M I hm) fun b s' ⟨H', I', q⟩ => ⟨H', I', k b H' q⟩⟩
theorem c_mid {t : TT} {σ : L2.St} {H : Hp} {R : Bool → Hp → Prop} (p : Prop) [Decidable p] (h : t σ H fun b H' => H' = H ∧ b = decide p) (h1 : p → R true H) (h2 : ¬ p → R false H) : tMid t σ H R :=
  ⟨_, h, fun b H' ⟨e1, e2⟩ => by
    subst e1 e2
    by_cases z : p
    · rw [decide_eq_true z]
      exact h1 z
    · rw [decide_eq_false z]
      exact h2 z⟩
theorem cut_to {xs ys : List V} {r : Int} (h : r = (xs.length : Int)) : cutV (xs ++ ys) none (some r) = xs := by
  subst h
  unfold cutV
  rw [HT.sIx_none, HT.sIx_nat, List.length_append, List.drop_zero, Nat.min_eq_left (by omega), Nat.sub_zero, List.take_left']
  rfl
theorem cut_from {xs ys : List V} {r : Int} (h : r = (xs.length : Int)) : cutV (xs ++ ys) (some r) none = ys := by
  subst h
  unfold cutV
  rw [HT.sIx_none, HT.sIx_nat, List.length_append, Nat.min_eq_left (by omega), List.drop_left', List.take_of_length_le (by omega)]
  rfl
theorem new_at {H H' : Hp} {p : Addr} {o : HO} (h : H p = none) (s : Same (upd H p o) H') : H' p = some o := s _ _ upd_same
theorem old_at {H H' : Hp} {p : Addr} {o : HO} (h : H p = some o) (s : Same H H') : H' p = some o := s _ _ h

/-! ### tuples unpacked, defs in local names, what stays where S may change -/
section
variable {K : PySem.W.Frag} {σ : L2.St} {H : Hp}
theorem c_gtup {n : Nat} {u : TGs} {a : Addr} {xs : List V} {Q : L2.St → Hp → Prop} (hx : SqT K H a xs) (hn : xs.length = n) (h : u xs σ H Q) : gTup K n u (.ref a) σ H Q := ⟨a, xs, rfl, hx, hn, h⟩
theorem c_gcons {t : TG} {u : TGs} {v : V} {r : List V} {Q : L2.St → Hp → Prop} (h : t v σ H fun σ' H' => u r σ' H' Q) : gCons t u (v :: r) σ H Q := ⟨v, r, rfl, h⟩
theorem c_gnil {Q : L2.St → Hp → Prop} (h : Q σ H) : gNil [] σ H Q := ⟨rfl, h⟩
end
def Aw (S : Addr) (H : Hp) : Hp := fun a => if a = S then none else H a
section
variable {S : Addr} {H H' : Hp}
theorem Aw.of {a : Addr} {o : HO} (h : H a = some o) (n : a ≠ S) : Aw S H a = some o := by
  unfold Aw
  rw [if_neg n]
  exact h
theorem Aw.to : Same (Aw S H) H := fun a o h => by
  unfold Aw at h
  by_cases e : a = S
  · rw [if_pos e] at h
    cases h
  · rw [if_neg e] at h
    exact h
theorem Aw.ne {a : Addr} {o : HO} (h : Aw S H a = some o) : a ≠ S := fun e => by
  unfold Aw at h
  rw [if_pos e] at h
  cases h
theorem Aw.ex (e : Ex S H H') : Same (Aw S H) (Aw S H') := fun a o h => Aw.of (e a o (Aw.ne h) (Aw.to _ _ h)) (Aw.ne h)
theorem Aw.same (e : Same H H') : Same (Aw S H) (Aw S H') := fun a o h => Aw.of (e a o (Aw.to _ _ h)) (Aw.ne h)
theorem Aw.up (e : Same H H') (n : H S = none) : Same H (Aw S H') := fun a o h => Aw.of (e a o h) (ne_of_none h n)
end
theorem c_callL {σ : L2.St} {H : Hp} {i : Nat} {f : Addr} {sp : Sp} {dvs : List V} {E : XK} {t : TA} {Q : VK} (hs : σ[i]? = some (some (.ref f))) (h : t σ H fun vs H1 => sp (vs ++ dvs) H1 Q E) : tCallL i f sp dvs E t σ H Q := ⟨hs, h⟩
theorem Aw.at {S p : Addr} {H : Hp} {o : HO} : Same (Aw p (Aw S H)) (Aw p (Aw S (upd H p o))) := fun a x h => by
  have n := Aw.ne h
  refine Aw.of (Aw.of ?_ (Aw.ne (Aw.to _ _ h))) n
  rw [upd_ne n]
  exact Aw.to _ _ (Aw.to _ _ h)
theorem c_lstRg {σ : L2.St} {H : Hp} {Q : VK} {te : L2.St → Hp → (Int → Int → Hp → Prop) → Prop} (h : te σ H fun a b H1 => RgOk a b ∧ ∀ q, H1 q = none → Q (.ref q) (upd H1 q (.lst (rgV a b)))) : tLstRg te σ H Q := h
theorem c_rg1 {σ : L2.St} {H : Hp} {ta : TE} {Q : Int → Int → Hp → Prop} (h : ta σ H fun x H1 => ∃ n, x = .int n ∧ Q 0 n H1) : tRg1 ta σ H Q := h
theorem seq_ix {d : Int} {n : Nat} (h0 : 0 ≤ d) (h1 : d < n) : seqIndex? d n = some d.toNat := by
  have h2 : ¬ d < 0 := by omega
  simp [seqIndex?, h2, h0, h1]
theorem erase_map {α β : Type} (f : α → β) : ∀ (l : List α) (i : Nat), (l.map f).eraseIdx i = (l.eraseIdx i).map f
  | [], _ => rfl
  | _ :: _, 0 => rfl
  | x :: l, i + 1 => by
    rw [List.map_cons, List.eraseIdx_cons_succ, List.eraseIdx_cons_succ, List.map_cons, erase_map f l i]
theorem Aw.no {S p : Addr} {H : Hp} (h : H p = none) : Aw S H p = none := by
  unfold Aw
  split
  · rfl
  · exact h
theorem Aw.hide {S p : Addr} {H : Hp} {o : HO} (h : H p = none) : Same (Aw S H) (Aw p (Aw S (upd H p o))) := Aw.up (Aw.same (same_new (Same.refl _) h)) (Aw.no h)

/-! ### the inner walk of a comprehension's second for -/
section
variable {X : Cx} {s : Shared} {H : Hp} {scope : Scope} {e : Env} {fp : List Addr} {tg l : Expr} {tl : TE}
theorem pi_listB (h : PE (X.blk s H scope e fp) l tl) : PI (X.blk s H scope e fp) tg l (iList X.K tl) := pi_list h
theorem pi_tupB (h : PE (X.blk s H scope e fp) l tl) : PI (X.blk s H scope e fp) tg l (iTup X.K tl) := pi_tup h
end
section
variable {X : Cx} {s : Shared} {H : Hp} {scope : Scope} {e : Env} {fp : List Addr}
theorem ix_tupB : IxR (X.blk s H scope e fp) (rIxT X.K) := ix_tup
theorem ix_listB : IxR (X.blk s H scope e fp) (rIxL X.K) := ix_list
end

section
variable {K : PySem.W.Frag} {H H' : Hp}
/-! isinstance -/
theorem ty_lst {a : Addr} {xs : List V} (h : SqL K H a xs) : TyX K H (.ref a) (.type "list") := by
  rcases h with (h | ⟨o, h⟩) | ⟨o, _, _, h, c, _⟩
  · exact .base (.lst h)
  · exact .base (.frz h)
  · exact .kList h c
theorem ty_tup {a : Addr} {xs : List V} (h : SqT K H a xs) : TyX K H (.ref a) (.type "tuple") := by
  rcases h with (h | ⟨o, h⟩) | ⟨o, _, _, h, c, _⟩
  · exact .base (.tup h)
  · exact .fTuple h
  · exact .kTuple h c
theorem kit2 {t : String} {b : Bool} (h1 : kitB t "list" = some b) (h2 : b = true ∨ kitB t "tuple" = some false) : PySem.W.kitAny K (.type t) [.type "list", .type "tuple"] = some b := by
  refine kitAny_cons (kit_ty h1) (fun e => ?_) (fun e => e)
  subst e
  rcases h2 with h | h
  · cases h
  · exact kitAny_cons (kit_ty h) (fun _ => rfl) (fun e => e)
theorem kit2t {t : String} (h1 : kitB t "list" = some false) (h2 : kitB t "tuple" = some true) : PySem.W.kitAny K (.type t) [.type "list", .type "tuple"] = some true :=
  kitAny_cons (kit_ty h1) (fun _ => kitAny_cons (kit_ty h2) (fun e => nomatch e) (fun e => e)) (fun e => nomatch e)
theorem r_isi2 {x : V} {tp : Addr} {t : Value} {b : Bool} {Q : VK} (hT : H tp = some (.tup [.ty "list", .ty "tuple"])) (ty : TyX K H x t) (e : PySem.W.kitAny K t [.type "list", .type "tuple"] = some b) (q : Q (.bl b) H) : rIsiT K [x, .ref tp] H Q :=
  ⟨x, tp, _, t, _, b, rfl, hT, .cons (.ty _) (.cons (.ty _) .nil), ty, e, q⟩
theorem r_isi {x : V} {t c : String} {b : Bool} {Q : VK} (ty : TyX K H x (.type t)) (e : kitB t c = some b) (q : Q (.bl b) H) : rIsi K [x, .ty c] H Q :=
  ⟨x, _, _, _, b, rfl, .ty _, ty, kit_ty e, q⟩
theorem two_lst {x : V} {tp a : Addr} {xs : List V} {Q : VK} (hT : H tp = some (.tup [.ty "list", .ty "tuple"])) (h : SqL K H a xs) (q : Q (.bl true) H) : rIsiT K [.ref a, .ref tp] H Q := r_isi2 hT (ty_lst h) (kit2 (by decide +kernel) (.inl rfl)) q
theorem two_tup {x : V} {tp a : Addr} {xs : List V} {Q : VK} (hT : H tp = some (.tup [.ty "list", .ty "tuple"])) (h : SqT K H a xs) (q : Q (.bl true) H) : rIsiT K [.ref a, .ref tp] H Q := r_isi2 hT (ty_tup h) (kit2t (by decide +kernel) (by decide +kernel)) q
theorem two_non {tp : Addr} {Q : VK} (hT : H tp = some (.tup [.ty "list", .ty "tuple"])) (q : Q (.bl false) H) : rIsiT K [.non, .ref tp] H Q := r_isi2 hT (.base .non) (kit2 (by decide +kernel) (.inr (by decide +kernel))) q
theorem two_bl {tp : Addr} {b : Bool} {Q : VK} (hT : H tp = some (.tup [.ty "list", .ty "tuple"])) (q : Q (.bl false) H) : rIsiT K [.bl b, .ref tp] H Q := r_isi2 hT (.base (.bl b)) (kit2 (by decide +kernel) (.inr (by decide +kernel))) q
theorem two_int {tp : Addr} {b : Int} {Q : VK} (hT : H tp = some (.tup [.ty "list", .ty "tuple"])) (q : Q (.bl false) H) : rIsiT K [.int b, .ref tp] H Q := r_isi2 hT (.base (.int b)) (kit2 (by decide +kernel) (.inr (by decide +kernel))) q
theorem two_str {tp : Addr} {b : Str} {Q : VK} (hT : H tp = some (.tup [.ty "list", .ty "tuple"])) (q : Q (.bl false) H) : rIsiT K [.str b, .ref tp] H Q := r_isi2 hT (.base (.str b)) (kit2 (by decide +kernel) (.inr (by decide +kernel))) q
end

/-! ### len(set(xs)) of ints, some of them alike -/
theorem firstMet_len (f : Nat → Int) : ∀ n, (PyProof.Rows.firstMet f n).length ≤ n
  | 0 => Nat.le_refl _
  | n + 1 => by
    have ih := firstMet_len f n
    rw [PyProof.Rows.firstMet_succ]
    unfold PyProof.Rows.step_dedup
    split
    · omega
    · rw [List.length_append, List.length_singleton]
      omega
theorem firstMet_full {ns : List Int} : ∀ n, n ≤ ns.length → (PyProof.Rows.firstMet (fun i => ns.getD i 0) n).length = n → PyProof.Rows.firstMet (fun i => ns.getD i 0) n = ns.take n ∧ (ns.take n).Nodup
  | 0, _, _ => ⟨rfl, by simp⟩
  | n + 1, h, e => by
    have hl := firstMet_len (fun i => ns.getD i 0) n
    rw [PyProof.Rows.firstMet_succ] at e ⊢
    unfold PyProof.Rows.step_dedup at e ⊢
    have hg : ns.getD n 0 = ns[n] := by
      rw [List.getD_eq_getElem?_getD, List.getElem?_eq_getElem (by omega)] <;> rfl
    split at e
    · omega
    · rename_i hb
      rw [List.length_append, List.length_singleton] at e
      obtain ⟨i1, i2⟩ := firstMet_full (ns := ns) n (by omega) (by omega)
      rw [i1] at hb
      rw [if_neg (by rw [i1]; exact hb), i1, List.take_succ_eq_append_getElem (by omega)]
      refine ⟨by rw [← hg], ?_⟩
      rw [List.nodup_append]
      refine ⟨i2, by simp, fun a ha b hb2 => ?_⟩
      rw [List.mem_singleton] at hb2
      rintro rfl
      refine hb (List.any_eq_true.mpr ⟨a, ha, ?_⟩)
      show (a == ns.getD n 0) = true
      rw [hg, hb2]
      exact beq_self_eq_true _
def dif (ns : List Int) : Nat := (PyProof.Rows.firstMet (fun i => ns.getD i 0) ns.length).length
theorem dif_le (ns : List Int) : dif ns ≤ ns.length := firstMet_len _ _
theorem dif_nodup {ns : List Int} (h : ns.length ≤ dif ns) : ns.Nodup := by
  have q := (firstMet_full ns.length (Nat.le_refl _) (Nat.le_antisymm (dif_le ns) h)).2
  rwa [List.take_length] at q
theorem intsAre_ofV : ∀ {ns : List Int} {us : List Value}, Vals (ns.map V.int) us → PyProof.Rows.IntsAre us ns
  | [], _, .nil => .nil
  | n :: ns, _, .cons r t => by
    obtain ⟨k, rfl⟩ := r
    exact .cons n k (intsAre_ofV t)
def tLenSetD (K : PySem.W.Frag) (ta : TE) : TE := fun σ H Q => ta σ H fun x H1 => ∃ (l : Addr) (ns : List Int), x = .ref l ∧ SqL K H1 l (ns.map V.int) ∧ ns.length ≤ 4000 ∧ Q (.int (dif ns : Nat)) H1
theorem pe_lenSetD {X : Cx} {a : Expr} {ta : TE} {p p2 q pos : Pos} (hg : Gl X "len") (hm : X.mg "len" = none) (hg2 : Gl X "set") (hm2 : X.mg "set" = none) (ha : PE X a ta) (hc : X.calm = true := by rfl)
    (na : starEach [a] X.env = (false, eval a X.env) :: starEach [] X.env := by rfl) : PE X (.Call (.Name "len" p) [.Call (.Name "set" p2) [a] [] q] [] pos) (tLenSetD X.K ta) := by
  refine ⟨fun pins s σ H Q I h => ?_⟩
  refine Call_ (ld_blt I hg hm boot_len ?_)
  refine PyProof.Rows.callWith_builtin1 (PyProof.Rows.args_cons ?_ rfl) rfl rfl
  refine Call_ (ld_blt I hg2 hm2 boot_set ?_)
  refine PyProof.Rows.callWith_type1 (PyProof.Rows.args_cons (thn (ha.run pins s σ H _ I h) fun v s1 ⟨x, H1, I1, r1, q1⟩ => PyProof.Rows.args_nil ?_) na) na rfl
  obtain ⟨l, ns, rfl, hq, hl, q1⟩ := q1
  cases r1
  obtain ⟨its, r, pl, hz⟩ := I1.list hq
  have hlen : its.toArray.size = ns.length := by rw [List.size_toArray, ← r.length, List.length_map]
  refine call_set_list (I1.ok.hd hc) pl.isList (by simpa using intsAre_ofV r) (by rw [hlen]; unfold scanBound; omega) fun h' tk hS hk => ?_
  refine PyProof.Rows.args_nil ?_
  rw [hlen] at hS
  obtain ⟨o, es, ep, t, ho, hex, hd, _, _, _, hf, hn⟩ := hS
  have I2 : Inv X pins σ H1 { s1 with heap := h', toks := tk } := I1.kept fun b o e => hk b o (Heap.lt_size e) e
  have hd2 := dif_le ns
  exact call_len_set ho hex hd hf (by rw [hn] <;> unfold dif at hd2 <;> omega) ⟨.int (dif ns : Nat), H1, I2.tok _, ⟨_, by rw [hn] <;> rfl⟩, q1⟩
section
variable {K : PySem.W.Frag} {σ : L2.St} {H : Hp} {ta : TE} {Q : VK}
theorem c_lenSetD (h : ta σ H fun x H1 => ∃ (l : Addr) (ns : List Int), x = .ref l ∧ SqL K H1 l (ns.map V.int) ∧ ns.length ≤ 4000 ∧ Q (.int (dif ns : Nat)) H1) : tLenSetD K ta σ H Q := h
end

/-! ### trees that join by words -/
inductive Wd where
  | a
  | o
  | l
def Wd.s : Wd → Str
  | .a => "and"
  | .o => "or"
  | .l => "less"
def jB : Wd → Bool → Bool → Bool
  | .a, t, u => t && u
  | .o, t, u => t || u
  | .l, t, u => t && !u
def jM : Wd → Int → Int → Int
  | .a, x, y => if y < x then y else x
  | .o, x, y => if y > x then y else x
  | .l, x, y => if 2 - y < x then 2 - y else x
inductive JT where
  | leaf (i : Nat)
  | nd (w : Wd) (l r : JT)
def JT.dep : JT → Nat
  | .leaf _ => 1
  | .nd _ l r => max l.dep r.dep + 1
def JT.lvs : JT → List Nat
  | .leaf i => [i]
  | .nd _ l r => l.lvs ++ r.lvs
def evB (b : Nat → Bool) : JT → Bool
  | .leaf i => b i
  | .nd w l r => jB w (evB b l) (evB b r)
def evM (m : Nat → Int) : JT → Int
  | .leaf i => m i
  | .nd w l r => jM w (evM m l) (evM m r)
def evV (J : Wd → V → V → V) (us : List V) : JT → V
  | .leaf i => us.getD i .non
  | .nd w l r => J w (evV J us l) (evV J us r)
def vB : Wd → V → V → V
  | w, .bl t, .bl u => .bl (jB w t u)
  | _, _, _ => .non
def vM : Wd → V → V → V
  | w, .int t, .int u => .int (jM w t u)
  | _, _, _ => .non
theorem evV_B {bs : List Bool} : ∀ {t : JT}, (∀ i ∈ t.lvs, i < bs.length) → evV vB (bs.map V.bl) t = .bl (evB (fun i => bs.getD i false) t)
  | .leaf i, h => by
    have := h i (by simp [JT.lvs])
    simp [evV, evB, List.getD_eq_getElem?_getD, this]
  | .nd w l r, h => by
    have hl := evV_B (t := l) (bs := bs) fun i hi => h i (by simp [JT.lvs, hi])
    have hr := evV_B (t := r) (bs := bs) fun i hi => h i (by simp [JT.lvs, hi])
    rw [evV, hl, hr]
    rfl
theorem evV_M {ms : List Int} : ∀ {t : JT}, (∀ i ∈ t.lvs, i < ms.length) → evV vM (ms.map V.int) t = .int (evM (fun i => ms.getD i 0) t)
  | .leaf i, h => by
    have := h i (by simp [JT.lvs])
    simp [evV, evM, List.getD_eq_getElem?_getD, this]
  | .nd w l r, h => by
    have hl := evV_M (t := l) (ms := ms) fun i hi => h i (by simp [JT.lvs, hi])
    have hr := evV_M (t := r) (ms := ms) fun i hi => h i (by simp [JT.lvs, hi])
    rw [evV, hl, hr]
    rfl
theorem lvs_pos : ∀ t : JT, 1 ≤ t.lvs.length
  | .leaf _ => Nat.le_refl _
  | .nd _ l r => by
    have := lvs_pos l
    simp [JT.lvs]
    omega
theorem dep_le : ∀ t : JT, t.dep ≤ t.lvs.length
  | .leaf _ => Nat.le_refl _
  | .nd _ l r => by
    have h1 := dep_le l
    have h2 := dep_le r
    have h3 := lvs_pos l
    have h4 := lvs_pos r
    simp [JT.lvs, JT.dep]
    omega
/-- what stands for a tree -/
inductive JR (K : PySem.W.Frag) (H : Hp) : V → JT → Prop where
  | leaf (i : Nat) : JR K H (.int i) (.leaf i)
  | nd {a : Addr} {vl vr : V} {w : Wd} {l r : JT} (h : SqT K H a [.str w.s, vl, vr]) (hl : JR K H vl l) (hr : JR K H vr r) : JR K H (.ref a) (.nd w l r)
theorem JR.same {K : PySem.W.Frag} {H H' : Hp} {v : V} {t : JT} (h : JR K H v t) (e : Same H H') : JR K H' v t := by
  induction h with
  | leaf i => exact .leaf i
  | nd h _ _ i1 i2 => exact .nd (same_tup e h) i1 i2
inductive JRs (K : PySem.W.Frag) (H : Hp) : List V → List JT → Prop where
  | nil : JRs K H [] []
  | cons {v : V} {t : JT} {vs : List V} {ts : List JT} (h : JR K H v t) (r : JRs K H vs ts) : JRs K H (v :: vs) (t :: ts)
section
variable {K : PySem.W.Frag} {H H' : Hp}
theorem JRs.same {vs : List V} {ts : List JT} (h : JRs K H vs ts) (e : Same H H') : JRs K H' vs ts := by
  induction h with
  | nil => exact .nil
  | cons h _ ih => exact .cons (h.same e) ih
theorem JRs.len {vs : List V} {ts : List JT} (h : JRs K H vs ts) : vs.length = ts.length := by
  induction h with
  | nil => rfl
  | cons h _ ih => exact congrArg (· + 1) ih
theorem JRs.app {vs ws : List V} {ts us : List JT} (h : JRs K H vs ts) (g : JRs K H ws us) : JRs K H (vs ++ ws) (ts ++ us) := by
  induction h with
  | nil => exact g
  | cons h _ ih => exact .cons h ih
theorem JRs.split : ∀ {ts us : List JT} {vs : List V}, JRs K H vs (ts ++ us) → ∃ a b, vs = a ++ b ∧ JRs K H a ts ∧ JRs K H b us
  | [], us, vs, h => ⟨[], vs, rfl, .nil, h⟩
  | t :: ts, us, _, .cons h r => by
    obtain ⟨a, b, e, ha, hb⟩ := JRs.split r
    exact ⟨_ :: a, b, by rw [e]; rfl, .cons h ha, hb⟩
theorem JRs.two {x y : JT} {ts : List JT} {vs : List V} (h : JRs K H vs (x :: y :: ts)) : ∃ vx vy vr, vs = vx :: vy :: vr ∧ JR K H vx x ∧ JR K H vy y ∧ JRs K H vr ts := by
  cases h with
  | cons a b =>
    cases b with
    | cons c d => exact ⟨_, _, _, rfl, a, c, d⟩
theorem JRs.leaves : ∀ ls : List Nat, JRs K H (ls.map fun i => V.int (i : Nat)) (ls.map .leaf)
  | [] => .nil
  | i :: r => .cons (.leaf i) (JRs.leaves r)
end
/-! two neighbours are joined, again and again -/
section
variable {α β : Type}
def mrg1 (f : Wd → α → α → α) (xs : List α) (s : Nat × Wd) : List α := match xs.drop s.1 with
  | x :: y :: r => xs.take s.1 ++ f s.2 x y :: r
  | _ => xs
def mrgs (f : Wd → α → α → α) (xs : List α) (ms : List (Nat × Wd)) : List α := ms.foldl (mrg1 f) xs
theorem mrg1_eq (f : Wd → α → α → α) (us r : List α) (x y : α) (w : Wd) : mrg1 f (us ++ x :: y :: r) (us.length, w) = us ++ f w x y :: r := by
  unfold mrg1
  simp
theorem split2 {xs : List α} {k : Nat} (h : k + 1 < xs.length) : ∃ us x y r, xs = us ++ x :: y :: r ∧ us.length = k := by
  refine ⟨xs.take k, xs[k], xs[k + 1], xs.drop (k + 2), ?_, by rw [List.length_take]; omega⟩
  rw [← List.drop_eq_getElem_cons h, ← List.drop_eq_getElem_cons (by omega), List.take_append_drop]
theorem mrg1_map {f : Wd → α → α → α} {f' : Wd → β → β → β} (g : α → β) (hom : ∀ w x y, g (f w x y) = f' w (g x) (g y)) (xs : List α) (s : Nat × Wd) : (mrg1 f xs s).map g = mrg1 f' (xs.map g) s := by
  unfold mrg1
  rw [← List.map_drop, ← List.map_take]
  rcases xs.drop s.1 with _ | ⟨x, _ | ⟨y, r⟩⟩
  · rfl
  · rfl
  · simp [hom]
theorem mrgs_map {f : Wd → α → α → α} {f' : Wd → β → β → β} (g : α → β) (hom : ∀ w x y, g (f w x y) = f' w (g x) (g y)) : ∀ (ms : List (Nat × Wd)) (xs : List α), (mrgs f xs ms).map g = mrgs f' (xs.map g) ms
  | [], _ => rfl
  | s :: ms, xs => by
    show (mrgs f (mrg1 f xs s) ms).map g = mrgs f' (mrg1 f' (xs.map g) s) ms
    rw [mrgs_map g hom ms, mrg1_map g hom]
theorem mrgs_succ {f : Wd → α → α → α} {xs : List α} {ms : List (Nat × Wd)} {i : Nat} {s : Nat × Wd} (h : ms[i]? = some s) : mrgs f xs (ms.take (i + 1)) = mrg1 f (mrgs f xs (ms.take i)) s := by
  rw [List.take_add_one, h]
  unfold mrgs
  rw [List.foldl_append]
  rfl
/-- each step finds its two neighbours -/
structure GoodM (n : Nat) (ms : List (Nat × Wd)) : Prop where
  len : ms.length + 1 = n
  at_ : ∀ i s, ms[i]? = some s → s.1 + 1 + i < n
theorem mrgs_len {f : Wd → α → α → α} {xs : List α} {ms : List (Nat × Wd)} (g : ∀ i s, ms[i]? = some s → s.1 + 1 + i < xs.length) : ∀ i, i ≤ ms.length → (mrgs f xs (ms.take i)).length + i = xs.length
  | 0, _ => rfl
  | i + 1, h => by
    have hi : ms[i]? = some ms[i] := List.getElem?_eq_getElem (by omega)
    have ih := mrgs_len (f := f) g i (by omega)
    rw [mrgs_succ hi]
    have hg := g i _ hi
    generalize mrgs f xs (ms.take i) = zs at ih ⊢
    generalize ms[i] = s at hg
    obtain ⟨k, w⟩ := s
    obtain ⟨us, x, y, r, e, hk⟩ := split2 (xs := zs) (k := k) (by dsimp only at hg; omega)
    subst hk
    rw [e] at ih ⊢
    rw [mrg1_eq]
    simp at ih ⊢
    omega
theorem mrgs_one {f : Wd → α → α → α} {xs : List α} {ms : List (Nat × Wd)} (g : GoodM xs.length ms) : ∃ z, mrgs f xs ms = [z] := by
  have h := mrgs_len (f := f) g.at_ ms.length (Nat.le_refl _)
  rw [List.take_length] at h
  have := g.len
  exact List.length_eq_one_iff.mp (by omega)
theorem flat1 (xs : List (List α)) (s : Nat × Wd) : (mrg1 (fun _ x y => x ++ y) xs s).flatten = xs.flatten := by
  by_cases h : s.1 + 1 < xs.length
  · obtain ⟨k, w⟩ := s
    obtain ⟨us, x, y, r, rfl, rfl⟩ := split2 h
    rw [mrg1_eq]
    simp
  · unfold mrg1
    rcases e : xs.drop s.1 with _ | ⟨x, _ | ⟨y, r⟩⟩
    · rfl
    · rfl
    · have : (xs.drop s.1).length = r.length + 2 := by rw [e]; rfl
      rw [List.length_drop] at this
      omega
theorem flats : ∀ (ms : List (Nat × Wd)) (xs : List (List α)), (mrgs (fun _ x y => x ++ y) xs ms).flatten = xs.flatten
  | [], _ => rfl
  | s :: ms, xs => by
    show (mrgs (fun _ x y => x ++ y) (mrg1 (fun _ x y => x ++ y) xs s) ms).flatten = xs.flatten
    rw [flats ms, flat1]
end
theorem leafs : ∀ ls : List Nat, (ls.map (JT.lvs ∘ JT.leaf)).flatten = ls
  | [] => rfl
  | i :: r => by
    rw [List.map_cons, List.flatten_cons, leafs r]
    rfl
theorem mrgs_lvs {ls : List Nat} {ms : List (Nat × Wd)} {t : JT} (h : mrgs JT.nd (ls.map .leaf) ms = [t]) : t.lvs = ls := by
  have e := mrgs_map (f := JT.nd) (f' := fun _ x y => x ++ y) JT.lvs (fun _ _ _ => rfl) ms (ls.map .leaf)
  rw [h] at e
  have q := congrArg List.flatten e
  rw [flats, List.map_map] at q
  have q2 : t.lvs = (ls.map (JT.lvs ∘ JT.leaf)).flatten := by simpa using q
  rw [q2, leafs]
theorem mrgs_evM {ls : List Nat} {ms : List (Nat × Wd)} {t : JT} (m : Nat → Int) (h : mrgs JT.nd (ls.map .leaf) ms = [t]) : mrgs jM (ls.map m) ms = [evM m t] := by
  have e := mrgs_map (f := JT.nd) (f' := jM) (evM m) (fun _ _ _ => rfl) ms (ls.map .leaf)
  rw [h, List.map_map] at e
  exact e.symm
/-! what agrees with marks -/
def ag1 (v : Bool) (m : Int) : Bool := decide (m = 1) || (v == decide (m = 2))
theorem jag {w : Wd} {a b : Int} {v u : Bool} (ha : 0 ≤ a ∧ a ≤ 2) (hb : 0 ≤ b ∧ b ≤ 2) (h1 : ag1 v a = true) (h2 : ag1 u b = true) : (0 ≤ jM w a b ∧ jM w a b ≤ 2) ∧ ag1 (jB w v u) (jM w a b) = true := by
  have h3 : a = 0 ∨ a = 1 ∨ a = 2 := by omega
  have h4 : b = 0 ∨ b = 1 ∨ b = 2 := by omega
  rcases h3 with rfl | rfl | rfl <;> rcases h4 with rfl | rfl | rfl <;> cases w <;> cases v <;> cases u <;> first | (revert h1; decide) | (revert h2; decide) | decide
theorem jex {w : Wd} {a b : Int} {v : Bool} (ha : 0 ≤ a ∧ a ≤ 2) (hb : 0 ≤ b ∧ b ≤ 2) (h : ag1 v (jM w a b) = true) : ∃ t u, ag1 t a = true ∧ ag1 u b = true ∧ jB w t u = v := by
  have h3 : a = 0 ∨ a = 1 ∨ a = 2 := by omega
  have h4 : b = 0 ∨ b = 1 ∨ b = 2 := by omega
  rcases h3 with rfl | rfl | rfl <;> rcases h4 with rfl | rfl | rfl <;> cases w <;> cases v <;> first | (revert h; decide) | exact ⟨true, true, by decide, by decide, by decide⟩ | exact ⟨true, false, by decide, by decide, by decide⟩ | exact ⟨false, true, by decide, by decide, by decide⟩ | exact ⟨false, false, by decide, by decide, by decide⟩
theorem ev_ag {b : Nat → Bool} {m : Nat → Int} : ∀ {t : JT}, (∀ i ∈ t.lvs, (0 ≤ m i ∧ m i ≤ 2) ∧ ag1 (b i) (m i) = true) → (0 ≤ evM m t ∧ evM m t ≤ 2) ∧ ag1 (evB b t) (evM m t) = true
  | .leaf i, h => h i (by simp [JT.lvs])
  | .nd w l r, h => by
    obtain ⟨h1, h2⟩ := ev_ag (t := l) (b := b) (m := m) fun i hi => h i (by simp [JT.lvs, hi])
    obtain ⟨h3, h4⟩ := ev_ag (t := r) (b := b) (m := m) fun i hi => h i (by simp [JT.lvs, hi])
    exact jag h1 h3 h2 h4
theorem evB_ext {b c : Nat → Bool} : ∀ {t : JT}, (∀ i ∈ t.lvs, b i = c i) → evB b t = evB c t
  | .leaf i, h => h i (by simp [JT.lvs])
  | .nd w l r, h => by
    have h1 := evB_ext (t := l) (b := b) (c := c) fun i hi => h i (by simp [JT.lvs, hi])
    have h2 := evB_ext (t := r) (b := b) (c := c) fun i hi => h i (by simp [JT.lvs, hi])
    rw [evB, evB, h1, h2]
theorem ag_any {m : Int} (h : 0 ≤ m ∧ m ≤ 2) : ag1 (decide (m = 2)) m = true := by
  unfold ag1
  simp
theorem ev_ex {m : Nat → Int} (hm : ∀ i, 0 ≤ m i ∧ m i ≤ 2) : ∀ {t : JT} {v : Bool}, t.lvs.Nodup → ag1 v (evM m t) = true → ∃ b : Nat → Bool, (∀ i, ag1 (b i) (m i) = true) ∧ evB b t = v
  | .leaf i, v, _, h => by
    refine ⟨fun j => if j = i then v else decide (m j = 2), fun j => ?_, by simp [evB]⟩
    by_cases e : j = i
    · subst e
      simp only [if_true]
      exact h
    · simp only [e, if_false]
      exact ag_any (hm j)
  | .nd w l r, v, hn, h => by
    have h1 := (ev_ag (t := l) (m := m) (b := fun j => decide (m j = 2)) fun i _ => ⟨hm i, ag_any (hm i)⟩).1
    have h2 := (ev_ag (t := r) (m := m) (b := fun j => decide (m j = 2)) fun i _ => ⟨hm i, ag_any (hm i)⟩).1
    obtain ⟨t, u, a1, a2, e⟩ := jex h1 h2 h
    obtain ⟨n1, n2, n3⟩ := List.nodup_append.mp (show (l.lvs ++ r.lvs).Nodup from hn)
    obtain ⟨bl, p1, q1⟩ := ev_ex hm n1 a1
    obtain ⟨br, p2, q2⟩ := ev_ex hm n2 a2
    refine ⟨fun j => if j ∈ l.lvs then bl j else br j, fun j => ?_, ?_⟩
    · by_cases z : j ∈ l.lvs
      · simp only [z, if_true]
        exact p1 j
      · simp only [z, if_false]
        exact p2 j
    · rw [evB, evB_ext (c := bl) (t := l) (fun i hi => by simp only [hi, if_true]), evB_ext (c := br) (t := r) (fun i hi => by
        have z : i ∉ l.lvs := fun z => n3 i z i hi rfl
        simp only [z, if_false]), q1, q2]
      exact e
def p2 : Nat → Int
  | 0 => 1
  | 1 => 2
  | 2 => 4
  | _ => 8
def bitN (n : Int) (k : Nat) : Bool := decide (n / p2 k % 2 = 1)
def trs (c : Nat) (n : Int) : List Bool := (List.range c).map (bitN n)
theorem enc {c : Nat} (hc : c ≤ 4) (b : Nat → Bool) : ∃ n : Nat, n < 2 ^ c ∧ ∀ k, k < c → bitN (0 + (n : Int)) k = b k := by
  have hc5 : c = 0 ∨ c = 1 ∨ c = 2 ∨ c = 3 ∨ c = 4 := by omega
  rcases hc5 with rfl | rfl | rfl | rfl | rfl
  · exact ⟨0, by decide, fun k hk => absurd hk (Nat.not_lt_zero _)⟩
  · refine ⟨(b 0).toNat, ?_, fun k hk => ?_⟩
    · cases b 0 <;> decide
    · have : k = 0 := by omega
      subst this
      cases b 0 <;> decide
  · refine ⟨(b 0).toNat + 2 * (b 1).toNat, ?_, fun k hk => ?_⟩
    · cases b 0 <;> cases b 1 <;> decide
    · have : k = 0 ∨ k = 1 := by omega
      rcases this with rfl | rfl <;> cases b 0 <;> cases b 1 <;> decide
  · refine ⟨(b 0).toNat + 2 * (b 1).toNat + 4 * (b 2).toNat, ?_, fun k hk => ?_⟩
    · cases b 0 <;> cases b 1 <;> cases b 2 <;> decide
    · have : k = 0 ∨ k = 1 ∨ k = 2 := by omega
      rcases this with rfl | rfl | rfl <;> cases b 0 <;> cases b 1 <;> cases b 2 <;> decide
  · refine ⟨(b 0).toNat + 2 * (b 1).toNat + 4 * (b 2).toNat + 8 * (b 3).toNat, ?_, fun k hk => ?_⟩
    · cases b 0 <;> cases b 1 <;> cases b 2 <;> cases b 3 <;> decide
    · have : k = 0 ∨ k = 1 ∨ k = 2 ∨ k = 3 := by omega
      rcases this with rfl | rfl | rfl | rfl <;> cases b 0 <;> cases b 1 <;> cases b 2 <;> cases b 3 <;> decide
theorem JR.tp {K : PySem.W.Frag} {H H' : Hp} {v : V} {t : JT} (h : JR K H v t) (e : Tp H H') : JR K H' v t := by
  induction h with
  | leaf i => exact .leaf i
  | nd h _ _ i1 i2 => exact .nd (e.tup h) i1 i2
def b2 (b : Bool) : Int := if b then 1 else 0
theorem evM_two {b : Nat → Bool} : ∀ t : JT, evM (fun i => 2 * b2 (b i)) t = 2 * b2 (evB b t)
  | .leaf i => rfl
  | .nd w l r => by
    rw [evM, evB, evM_two l, evM_two r]
    cases w <;> cases evB b l <;> cases evB b r <;> decide
theorem evM_ext {b c : Nat → Int} : ∀ {t : JT}, (∀ i ∈ t.lvs, b i = c i) → evM b t = evM c t
  | .leaf i, h => h i (by simp [JT.lvs])
  | .nd w l r, h => by
    have h1 := evM_ext (t := l) (b := b) (c := c) fun i hi => h i (by simp [JT.lvs, hi])
    have h2 := evM_ext (t := r) (b := b) (c := c) fun i hi => h i (by simp [JT.lvs, hi])
    rw [evM, evM, h1, h2]
theorem two_eq (b : Bool) : decide (2 * b2 b = 2) = b := by cases b <;> decide
theorem pows {c : Int} (h0 : 1 ≤ c) (h1 : c ≤ 4) : atI [V.int 1, .int 2, .int 4, .int 8, .int 16] c = some (.int ((2 ^ c.toNat : Nat) : Int)) := by
  have : c = 1 ∨ c = 2 ∨ c = 3 ∨ c = 4 := by omega
  rcases this with rfl | rfl | rfl | rfl <;> rfl
theorem p2_at {k : Nat} (h : k < 4) : atI [V.int 1, .int 2, .int 4, .int 8] (0 + (k : Int)) = some (.int (p2 k)) := by
  have : k = 0 ∨ k = 1 ∨ k = 2 ∨ k = 3 := by omega
  rcases this with rfl | rfl | rfl | rfl <;> rfl
theorem p2_pos (k : Nat) : 0 < p2 k ∧ p2 k ≤ 8 := by
  rcases k with _ | _ | _ | k <;> simp [p2]

/-! ### the law's twigs -/
def nts (ls : List Nat) : List V := ls.map fun i => V.int (i : Nat)
theorem nts_snoc (ls : List Nat) (z : Int) (h : 0 ≤ z) : nts ls ++ [.int z] = nts (ls ++ [z.toNat]) := by
  unfold nts
  rw [List.map_append, List.map_singleton, Int.toNat_of_nonneg h]
theorem nts_len (ls : List Nat) : (nts ls).length = ls.length := List.length_map ..
theorem wd_at {d : Int} (h0 : 0 ≤ d) (h1 : d < 3) : ∃ w : Wd, atI [V.str "and", .str "or", .str "less"] d = some (.str w.s) := by
  have : d = 0 ∨ d = 1 ∨ d = 2 := by omega
  rcases this with rfl | rfl | rfl
  · exact ⟨.a, rfl⟩
  · exact ⟨.o, rfl⟩
  · exact ⟨.l, rfl⟩
inductive MRs (H : Hp) : List V → List (Nat × Wd) → Prop where
  | nil : MRs H [] []
  | cons {a : Addr} {k : Nat} {w : Wd} {us : List V} {ms : List (Nat × Wd)} (h : H a = some (.lst [.int (k : Nat), .str w.s])) (r : MRs H us ms) : MRs H (.ref a :: us) ((k, w) :: ms)
section
variable {H H' : Hp}
theorem MRs.same {us : List V} {ms : List (Nat × Wd)} (h : MRs H us ms) (e : Same H H') : MRs H' us ms := by
  induction h with
  | nil => exact .nil
  | cons h _ ih => exact .cons (e _ _ h) ih
theorem MRs.len {us : List V} {ms : List (Nat × Wd)} (h : MRs H us ms) : us.length = ms.length := by
  induction h with
  | nil => rfl
  | cons h _ ih => exact congrArg (· + 1) ih
theorem MRs.snoc {us : List V} {ms : List (Nat × Wd)} {a : Addr} {k : Nat} {w : Wd} (h : MRs H us ms) (g : H a = some (.lst [.int (k : Nat), .str w.s])) : MRs H (us ++ [.ref a]) (ms ++ [(k, w)]) := by
  induction h with
  | nil => exact .cons g .nil
  | cons h _ ih => exact .cons h ih
theorem MRs.get {us : List V} {ms : List (Nat × Wd)} (h : MRs H us ms) : ∀ {i : Nat} {v : V}, us[i]? = some v → ∃ a k w, v = .ref a ∧ ms[i]? = some (k, w) ∧ H a = some (.lst [.int (k : Nat), .str w.s]) := by
  induction h with
  | nil => exact fun e => nomatch e
  | cons h _ ih =>
    rintro (_ | i) v e
    · exact ⟨_, _, _, (Option.some.inj e).symm, rfl, h⟩
    · exact ih e
end
structure TwR (H : Hp) (p : Addr) (ls : List Nat) (ms : List (Nat × Wd)) : Prop where
  ex : ∃ (lv mg : Addr) (us : List V), H p = some (.lst [.ref lv, .ref mg]) ∧ H lv = some (.lst (nts ls)) ∧ H mg = some (.lst us) ∧ MRs H us ms
theorem TwR.same {H H' : Hp} {p : Addr} {ls : List Nat} {ms : List (Nat × Wd)} (h : TwR H p ls ms) (e : Same H H') : TwR H' p ls ms := by
  obtain ⟨lv, mg, us, a, b, c, d⟩ := h.ex
  exact ⟨lv, mg, us, e _ _ a, e _ _ b, e _ _ c, d.same e⟩
def GoodP (n : Nat) (ms : List (Nat × Wd)) : Prop := ∀ (j : Nat) (s : Nat × Wd), ms[j]? = some s → s.1 + 1 + j < n
theorem GoodP.snoc {n : Nat} {ms : List (Nat × Wd)} {k : Nat} {w : Wd} (g : GoodP n ms) (h : k + 1 + ms.length < n) : GoodP n (ms ++ [(k, w)]) := fun j s e => by
  by_cases hj : j < ms.length
  · rw [List.getElem?_append_left hj] at e
    exact g j s e
  · rw [List.getElem?_append_right (by omega)] at e
    have : j - ms.length = 0 := by
      have := (List.getElem?_eq_some_iff.mp e).1
      simp at this
      omega
    rw [this] at e
    cases e
    dsimp only
    omega

section Tac1
/-! ### the words: "rd" goes on as far as it can; "hp" finds what stands at an address; "t" "f" a test that is known -/
local macro_rules | `(tactic| walk_at "h0") => `(tactic| first | assumption | exact upd_same)
local macro_rules | `(tactic| walk_at "n0") => `(tactic| first
  | assumption | (apply Ne.symm; assumption) | exact ne_nn (by assumption) (by walk_at "h0") | exact ne_nn' (by assumption) (by walk_at "h0"))
local macro_rules | `(tactic| walk_at "hq") => `(tactic| first
  | assumption | exact upd_same | exact (upd_ne (by walk_at "n0")).trans (by walk_at "hq"))
local macro_rules | `(tactic| walk_at "ne") => `(tactic| first
  | assumption | (apply Ne.symm; assumption) | exact ne_nn (by assumption) (by walk_at "hq") | exact ne_nn' (by assumption) (by walk_at "hq"))
local macro_rules | `(tactic| walk_at "hp") => `(tactic| first
  | assumption
  | exact upd_same
  | exact (upd_ne (by walk_at "ne")).trans (by walk_at "hp")
  | exact same_at (by assumption) (by walk_at "hp")
  | exact ex_at (by assumption) (by walk_at "ne") (by walk_at "hp"))
local macro_rules | `(tactic| walk_at "sm") => `(tactic| first
  | assumption
  | exact Same.refl _
  | exact same_new (by walk_at "sm") (by assumption)
  | exact same_mut (by walk_at "sm") (by assumption))
local macro_rules | `(tactic| walk_at "ex") => `(tactic| first
  | assumption
  | exact Ex.refl _ _
  | exact Ex.new (by walk_at "ex") (by assumption)
  | exact Ex.mut (by walk_at "ex") (by assumption)
  | exact Ex.at (by walk_at "ex"))
local macro_rules | `(tactic| walk_at "sa") => `(tactic| first
  | assumption
  | exact seq' (by assumption) (by walk_at "sm")
  | exact tup' (by assumption) (by walk_at "sm"))
local macro_rules | `(tactic| walk_at "sq") => `(tactic| first
  | assumption
  | exact seq' (by assumption) (by walk_at "sm")
  | exact tup' (by assumption) (by walk_at "sm")
  | exact sql (by walk_at "hp")
  | exact sqt (by walk_at "hp"))
local macro_rules | `(tactic| walk_at "tt") => `(tactic| first | (simp; done) | (simp; omega))
local macro_rules | `(tactic| walk_at "tf") => `(tactic| first
  | ((with_reducible show if _ = true then _ else _); refine i_T (by walk_at "tt") ?_)
  | ((with_reducible show if _ = true then _ else _); refine i_F (by walk_at "tt") ?_))
local macro_rules | `(tactic| walk_at "ix") => `(tactic| first
  | exact ixn (j := 0) (by simp)
  | exact ixn (j := 1) (by simp)
  | exact ixn (j := 2) (by simp)
  | exact ixn (j := 3) (by simp)
  | exact ixn (j := 4) (by simp)
  | exact ixn (j := 5) (by simp)
  | exact ixn (j := 6) (by simp)
  | exact ixn (j := 7) (by simp))
local macro_rules | `(tactic| walk_at "at") => `(tactic| first
  | exact atI_nat (j := 0) (by rfl)
  | exact atI_nat (j := 1) (by rfl)
  | exact atI_nat (j := 2) (by rfl)
  | exact atI_nat (j := 3) (by rfl)
  | exact atI_nat (j := 4) (by rfl)
  | exact atI_nat (j := 5) (by rfl)
  | exact atI_nat (j := 6) (by rfl)
  | exact atI_nat (j := 7) (by rfl))
local macro_rules | `(tactic| walk_at "rd1") => `(tactic| first
  | with_reducible refine c_seq ?_
  | with_reducible refine c_asg ?_
  | ((with_reducible refine c_gname ?_); try dsimp only [List.set])
  | with_reducible refine c_ret ?_
  | with_reducible refine c_ifs ?_
  | ((with_reducible show tVar _ _ _ _); refine c_var (by rfl) ?_)
  | with_reducible refine c_c ?_
  | with_reducible refine c_op ?_
  | with_reducible refine c_un ?_
  | with_reducible refine c_test ?_
  | with_reducible refine c_B ?_
  | with_reducible refine c_CB ?_
  | with_reducible refine c_cons ?_
  | with_reducible refine c_nil ?_
  | with_reducible refine c_call ?_
  | with_reducible refine c_lst ?_
  | with_reducible refine c_tup ?_
  | with_reducible refine c_drop ?_
  | with_reducible refine c_gsub ?_
  | with_reducible refine c_BM ?_
  | with_reducible refine c_BM0 ?_
  | with_reducible refine c_and ?_
  | with_reducible refine c_or ?_
  | with_reducible refine c_not ?_
  | with_reducible refine c_andV ?_
  | with_reducible refine c_orV ?_
  | with_reducible refine c_notV ?_
  | with_reducible refine c_if ?_
  | with_reducible refine c_chain ?_
  | with_reducible refine c_next ?_
  | with_reducible refine c_retN ?_
  | with_reducible refine c_yes ?_
  | ((with_reducible show rIn _ _ (V.bl _) _ _ _); first | refine r_inL (by walk_at "sq") rfl (flat_bl _) ?_ | refine r_inL (by walk_at "sq") rfl (by rfl) ?_)
  | with_reducible refine r_I0 ?_
  | with_reducible refine r_U ?_
  | with_reducible refine r_eqI ?_
  | with_reducible refine r_neI ?_
  | with_reducible refine r_eqB ?_
  | with_reducible refine r_neB ?_
  | with_reducible refine r_eqS ?_
  | with_reducible refine r_neS ?_
  | ((with_reducible show rIxL _ _ (V.int (OfNat.ofNat _)) _ _); refine r_ixL (by walk_at "sq") (by walk_at "at") ?_)
  | ((with_reducible show rIxT _ _ (V.int (OfNat.ofNat _)) _ _); refine r_ixT (by walk_at "sq") (by walk_at "at") ?_)
  | ((with_reducible show rI CMul _ _ _ _ _); refine r_I (by first | exact .inl ⟨by omega, by omega⟩ | exact .inr ⟨by omega, by omega⟩) ?_)
  | ((with_reducible show rI CDiv _ _ _ _ _); refine r_I ⟨by omega, by omega⟩ ?_)
  | ((with_reducible show rI (fun _ _ => _) _ _ _ _ _); refine r_I (by first | assumption | omega | decide) ?_)
  | with_reducible refine r_pow18 ?_
  | with_reducible refine r_pow17 ?_
  | ((with_reducible show rSetL _ _ _ _ _); refine r_setL (by walk_at "hp") (by walk_at "ix") ?_; try dsimp only [List.set]; try simp only [upd_upd])
  | ((with_reducible show tyV _ _ _ _ ∧ _); refine ⟨.inl ⟨rfl, _, by walk_at "sq"⟩, ?_⟩)
  | ((with_reducible show rPop _ _ _ _); refine r_pop (by walk_at "hp") ?_)
  | ((with_reducible show rAppend _ _ _ _); refine r_app (by walk_at "hp") (by first | assumption | exact smallLt (by omega) | exact smallLt (by simp <;> omega)) ?_)
  | ((with_reducible show _ ≤ sizeLine ∧ _); refine ⟨small (by simp), ?_⟩)
  | ((with_reducible show V.non = V.non ∧ _); refine ⟨rfl, ?_⟩)
  | with_reducible refine iteT ?_
  | with_reducible refine iteF ?_
  | with_reducible refine ⟨_, rfl, ?_⟩
  | with_reducible refine ⟨_, _, rfl, ?_⟩
  | with_reducible refine Or.inl ⟨_, rfl, ?_⟩
  | with_reducible refine Or.inr ⟨_, rfl, ?_⟩
  | ((with_reducible show ∃ _ _, [_] = [_] ∧ _); first
    | refine ⟨_, _, rfl, Or.inl (by walk_at "sa"), ?_⟩ | refine ⟨_, _, rfl, Or.inr (by walk_at "sa"), ?_⟩
    | refine ⟨_, _, rfl, Or.inl (by exact sql (by walk_at "hp")), ?_⟩ | refine ⟨_, _, rfl, Or.inr (by exact sqt (by walk_at "hp")), ?_⟩))
local macro_rules | `(tactic| walk_at "nw") => `(tactic| (intro _ _))
local macro_rules | `(tactic| walk_at "rdn") => `(tactic| repeat (first | walk_at "rd1" | ((with_reducible show ∀ _ : Addr, _ = none → _); intro _ _)))
local macro_rules | `(tactic| walk_at "rd") => `(tactic| repeat walk_at "rd1")

def topS (i : Nat) : Stmt := PySem.Challenge.pw_wholepages_k53_exact_trees.main.body.getD i (.Pass ⟨0, 0, 0, 0⟩)
abbrev s_both_mark : Stmt := topS 1
abbrev N_both_mark : List Str := ["a", "b"]
theorem sc_both_mark : FnScope N_both_mark ["a", "b"] (defScope s_both_mark) := ⟨rfl, rfl, rfl, by decide +kernel, rfl, by decide +kernel, by decide +kernel⟩
abbrev s_either_mark : Stmt := topS 2
abbrev N_either_mark : List Str := ["a", "b"]
theorem sc_either_mark : FnScope N_either_mark ["a", "b"] (defScope s_either_mark) := ⟨rfl, rfl, rfl, by decide +kernel, rfl, by decide +kernel, by decide +kernel⟩
abbrev s_less_mark : Stmt := topS 3
abbrev N_less_mark : List Str := ["a", "b"]
theorem sc_less_mark : FnScope N_less_mark ["a", "b"] (defScope s_less_mark) := ⟨rfl, rfl, rfl, by decide +kernel, rfl, by decide +kernel, by decide +kernel⟩
abbrev s_joined_truth : Stmt := topS 5
abbrev N_joined_truth : List Str := ["word", "t", "u"]
theorem sc_joined_truth : FnScope N_joined_truth ["word", "t", "u"] (defScope s_joined_truth) := ⟨rfl, rfl, rfl, by decide +kernel, rfl, by decide +kernel, by decide +kernel⟩
abbrev s_joined_mark : Stmt := topS 6
abbrev N_joined_mark : List Str := ["word", "a", "b"]
theorem sc_joined_mark : FnScope N_joined_mark ["word", "a", "b"] (defScope s_joined_mark) := ⟨rfl, rfl, rfl, by decide +kernel, rfl, by decide +kernel, by decide +kernel⟩
abbrev s_joined : Stmt := topS 7
abbrev N_joined : List Str := ["tree", "given", "joining", "word", "left", "right", "first", "second"]
theorem sc_joined : FnScope N_joined ["tree", "given", "joining"] (defScope s_joined) := ⟨rfl, rfl, rfl, by decide +kernel, rfl, by decide +kernel, by decide +kernel⟩
abbrev s_tree_truth : Stmt := topS 8
abbrev N_tree_truth : List Str := ["tree", "truths"]
theorem sc_tree_truth : FnScope N_tree_truth ["tree", "truths"] (defScope s_tree_truth) := ⟨rfl, rfl, rfl, by decide +kernel, rfl, by decide +kernel, by decide +kernel⟩
abbrev s_tree_mark : Stmt := topS 9
abbrev N_tree_mark : List Str := ["tree", "marks"]
theorem sc_tree_mark : FnScope N_tree_mark ["tree", "marks"] (defScope s_tree_mark) := ⟨rfl, rfl, rfl, by decide +kernel, rfl, by decide +kernel, by decide +kernel⟩
abbrev s__law_stream : Stmt := topS 11
abbrev N__law_stream : List Str := ["_law_script"]
theorem sc__law_stream : FnScope N__law_stream ["_law_script"] (defScope s__law_stream) := ⟨rfl, rfl, rfl, by decide +kernel, rfl, by decide +kernel, by decide +kernel⟩
abbrev s__law_draw : Stmt := topS 12
abbrev N__law_draw : List Str := ["_law_stream_here", "_law_many", "_law_place", "_law_cell", "_law_number"]
theorem sc__law_draw : FnScope N__law_draw ["_law_stream_here", "_law_many"] (defScope s__law_draw) := ⟨rfl, rfl, rfl, by decide +kernel, rfl, by decide +kernel, by decide +kernel⟩
abbrev s__law_twig : Stmt := topS 13
abbrev N__law_twig : List Str := ["_law_stream_here", "_law_count", "_law_most", "_law_k", "_law_leaves", "_law_merges"]
theorem sc__law_twig : FnScope N__law_twig ["_law_stream_here", "_law_count", "_law_most"] (defScope s__law_twig) := ⟨rfl, rfl, rfl, by decide +kernel, rfl, by decide +kernel, by decide +kernel⟩
abbrev s__law_distinct_twig : Stmt := topS 14
abbrev N__law_distinct_twig : List Str := ["_law_stream_here", "_law_count", "_law_rest", "_law_leaves", "_law_k", "_law_merges"]
theorem sc__law_distinct_twig : FnScope N__law_distinct_twig ["_law_stream_here", "_law_count"] (defScope s__law_distinct_twig) := ⟨rfl, rfl, rfl, by decide +kernel, rfl, by decide +kernel, by decide +kernel⟩
abbrev s__law_grown : Stmt := topS 15
abbrev N__law_grown : List Str := ["_law_twig_here", "_law_parts", "_law_step", "_law_at"]
theorem sc__law_grown : FnScope N__law_grown ["_law_twig_here"] (defScope s__law_grown) := ⟨rfl, rfl, rfl, by decide +kernel, rfl, by decide +kernel, by decide +kernel⟩
abbrev s__law_join_marks : Stmt := topS 16
abbrev N__law_join_marks : List Str := ["_law_word", "_law_one", "_law_two"]
theorem sc__law_join_marks : FnScope N__law_join_marks ["_law_word", "_law_one", "_law_two"] (defScope s__law_join_marks) := ⟨rfl, rfl, rfl, by decide +kernel, rfl, by decide +kernel, by decide +kernel⟩
abbrev s__law_tree_value : Stmt := topS 17
abbrev N__law_tree_value : List Str := ["_law_twig_here", "_law_values", "_law_parts", "_law_step", "_law_at", "_law_k"]
theorem sc__law_tree_value : FnScope N__law_tree_value ["_law_twig_here", "_law_values"] (defScope s__law_tree_value) := ⟨rfl, rfl, rfl, by decide +kernel, rfl, by decide +kernel, by decide +kernel⟩
abbrev s__law_agree : Stmt := topS 18
abbrev N__law_agree : List Str := ["_law_vector", "_law_marks", "_law_k"]
theorem sc__law_agree : FnScope N__law_agree ["_law_vector", "_law_marks"] (defScope s__law_agree) := ⟨rfl, rfl, rfl, by decide +kernel, rfl, by decide +kernel, by decide +kernel⟩
abbrev s_law : Stmt := topS 19
abbrev N_law : List Str := ["_law_script", "_law_stream_here", "_law_count", "_law_twig_here", "_law_tree", "_law_marks", "_law_sides", "_law_number", "_law_truths", "_law_value", "_law_told", "_law_mark", "_law_side", "_law_k", "_law_one"]
theorem sc_law : FnScope N_law ["_law_script"] (defScope s_law) := ⟨rfl, rfl, rfl, by decide +kernel, rfl, by decide +kernel, by decide +kernel⟩
structure Txt (K : PySem.W.Frag) (mg : Str → Option Value) : Type where
  a_both_mark : Addr
  d_both_mark : FuncData
  F_both_mark : Fun K "both_mark" "both_mark" s_both_mark a_both_mark d_both_mark
  b_both_mark : Binds K d_both_mark ["a", "b"] []
  g_both_mark : mg "both_mark" = some (.ref a_both_mark)
  a_either_mark : Addr
  d_either_mark : FuncData
  F_either_mark : Fun K "either_mark" "either_mark" s_either_mark a_either_mark d_either_mark
  b_either_mark : Binds K d_either_mark ["a", "b"] []
  g_either_mark : mg "either_mark" = some (.ref a_either_mark)
  a_less_mark : Addr
  d_less_mark : FuncData
  F_less_mark : Fun K "less_mark" "less_mark" s_less_mark a_less_mark d_less_mark
  b_less_mark : Binds K d_less_mark ["a", "b"] []
  g_less_mark : mg "less_mark" = some (.ref a_less_mark)
  a_joined_truth : Addr
  d_joined_truth : FuncData
  F_joined_truth : Fun K "joined_truth" "joined_truth" s_joined_truth a_joined_truth d_joined_truth
  b_joined_truth : Binds K d_joined_truth ["word", "t", "u"] []
  g_joined_truth : mg "joined_truth" = some (.ref a_joined_truth)
  a_joined_mark : Addr
  d_joined_mark : FuncData
  F_joined_mark : Fun K "joined_mark" "joined_mark" s_joined_mark a_joined_mark d_joined_mark
  b_joined_mark : Binds K d_joined_mark ["word", "a", "b"] []
  g_joined_mark : mg "joined_mark" = some (.ref a_joined_mark)
  a_joined : Addr
  d_joined : FuncData
  F_joined : Fun K "joined" "joined" s_joined a_joined d_joined
  b_joined : Binds K d_joined ["tree", "given", "joining"] []
  g_joined : mg "joined" = some (.ref a_joined)
  a_tree_truth : Addr
  d_tree_truth : FuncData
  F_tree_truth : Fun K "tree_truth" "tree_truth" s_tree_truth a_tree_truth d_tree_truth
  b_tree_truth : Binds K d_tree_truth ["tree", "truths"] []
  g_tree_truth : mg "tree_truth" = some (.ref a_tree_truth)
  a_tree_mark : Addr
  d_tree_mark : FuncData
  F_tree_mark : Fun K "tree_mark" "tree_mark" s_tree_mark a_tree_mark d_tree_mark
  b_tree_mark : Binds K d_tree_mark ["tree", "marks"] []
  g_tree_mark : mg "tree_mark" = some (.ref a_tree_mark)
  a_stream : Addr
  d_stream : FuncData
  F_stream : Fun K "_law_stream" "_law_stream" s__law_stream a_stream d_stream
  b_stream : Binds K d_stream ["_law_script"] []
  g_stream : mg "_law_stream" = some (.ref a_stream)
  a_draw : Addr
  d_draw : FuncData
  F_draw : Fun K "_law_draw" "_law_draw" s__law_draw a_draw d_draw
  b_draw : Binds K d_draw ["_law_stream_here", "_law_many"] []
  g_draw : mg "_law_draw" = some (.ref a_draw)
  a_twig : Addr
  d_twig : FuncData
  F_twig : Fun K "_law_twig" "_law_twig" s__law_twig a_twig d_twig
  b_twig : Binds K d_twig ["_law_stream_here", "_law_count", "_law_most"] []
  g_twig : mg "_law_twig" = some (.ref a_twig)
  a_distinct_twig : Addr
  d_distinct_twig : FuncData
  F_distinct_twig : Fun K "_law_distinct_twig" "_law_distinct_twig" s__law_distinct_twig a_distinct_twig d_distinct_twig
  b_distinct_twig : Binds K d_distinct_twig ["_law_stream_here", "_law_count"] []
  g_distinct_twig : mg "_law_distinct_twig" = some (.ref a_distinct_twig)
  a_grown : Addr
  d_grown : FuncData
  F_grown : Fun K "_law_grown" "_law_grown" s__law_grown a_grown d_grown
  b_grown : Binds K d_grown ["_law_twig_here"] []
  g_grown : mg "_law_grown" = some (.ref a_grown)
  a_join_marks : Addr
  d_join_marks : FuncData
  F_join_marks : Fun K "_law_join_marks" "_law_join_marks" s__law_join_marks a_join_marks d_join_marks
  b_join_marks : Binds K d_join_marks ["_law_word", "_law_one", "_law_two"] []
  g_join_marks : mg "_law_join_marks" = some (.ref a_join_marks)
  a_tree_value : Addr
  d_tree_value : FuncData
  F_tree_value : Fun K "_law_tree_value" "_law_tree_value" s__law_tree_value a_tree_value d_tree_value
  b_tree_value : Binds K d_tree_value ["_law_twig_here", "_law_values"] []
  g_tree_value : mg "_law_tree_value" = some (.ref a_tree_value)
  a_agree : Addr
  d_agree : FuncData
  F_agree : Fun K "_law_agree" "_law_agree" s__law_agree a_agree d_agree
  b_agree : Binds K d_agree ["_law_vector", "_law_marks"] []
  g_agree : mg "_law_agree" = some (.ref a_agree)
  z_abs : mg "abs" = none
  z_bool : mg "bool" = none
  z_int : mg "int" = none
  z_isinstance : mg "isinstance" = none
  z_len : mg "len" = none
  z_list : mg "list" = none
  z_max : mg "max" = none
  z_min : mg "min" = none
  z_range : mg "range" = none
  z_set : mg "set" = none
/-! ### the law's stream of numbers -/
/-- at S the law's stream: the copy of the script at L, a place, a number, how many draws it still gives -/
structure Strm (S L : Addr) (ns : List Int) (H : Hp) : Prop where
  at_ : ∃ (p : Nat) (n k : Int), H S = some (.lst [.ref L, .int p, .int n, .int k]) ∧ p ≤ ns.length ∧ 0 ≤ n ∧ 0 ≤ k
  lst : H L = some (.lst (ns.map V.int))
  ne : L ≠ S
  len : ns.length ≤ 63
theorem strm_at {S L : Addr} {ns : List Int} {H : Hp} {q n c : Int} (eL : H L = some (.lst (ns.map V.int))) (ne : L ≠ S) (hl : ns.length ≤ 63) (h0 : 0 ≤ q) (h1 : q ≤ ns.length) (hn : 0 ≤ n) (hc : 0 ≤ c) : Strm S L ns (upd H S (.lst [.ref L, .int q, .int n, .int c])) :=
  ⟨⟨q.toNat, n, c, by rw [upd_same, Int.toNat_of_nonneg h0], by omega, hn, hc⟩, by rw [upd_ne ne]; exact eL, ne, hl⟩
theorem Strm.new {S L : Addr} {ns : List Int} {H : Hp} {p : Addr} {o : HO} (s : Strm S L ns H) (h : H p = none) : Strm S L ns (upd H p o) := by
  obtain ⟨⟨a, b, c, e, z⟩, l, n, q⟩ := s
  exact ⟨⟨a, b, c, by rw [upd_ne (ne_of_none e h)]; exact e, z⟩, by rw [upd_ne (ne_of_none l h)]; exact l, n, q⟩
theorem Strm.upd {S L : Addr} {ns : List Int} {H : Hp} {p : Addr} {o : HO} (s : Strm S L ns H) (h1 : p ≠ S) (h2 : p ≠ L) : Strm S L ns (upd H p o) := by
  obtain ⟨⟨a, b, c, e, z⟩, l, n, q⟩ := s
  exact ⟨⟨a, b, c, by rw [upd_ne h1.symm]; exact e, z⟩, by rw [upd_ne h2.symm]; exact l, n, q⟩
theorem Strm.same {S L : Addr} {ns : List Int} {H H' : Hp} (s : Strm S L ns H) (h : Same H H') : Strm S L ns H' := by
  obtain ⟨⟨a, b, c, e, z⟩, l, n, q⟩ := s
  exact ⟨⟨a, b, c, h _ _ e, z⟩, h _ _ l, n, q⟩
theorem Strm.neS {S L : Addr} {ns : List Int} {H : Hp} {p : Addr} (s : Strm S L ns H) (h : H p = none) : p ≠ S := by
  obtain ⟨⟨a, b, c, e, z⟩, l, n, q⟩ := s
  exact (ne_of_none e h).symm
theorem Strm.neL {S L : Addr} {ns : List Int} {H : Hp} {p : Addr} (s : Strm S L ns H) (h : H p = none) : p ≠ L := by
  obtain ⟨⟨a, b, c, e, z⟩, l, n, q⟩ := s
  exact (ne_of_none l h).symm
def spStream (K : PySem.W.Frag) : Sp := fun vs H Q _ => ∃ (a : Addr) (ns : List Int), vs = [.ref a] ∧ SqL K H a (ns.map V.int) ∧ ns.length ≤ 63 ∧ ∀ S L H', H S = none → Same H H' → Strm S L ns H' → Q (.ref S) H'
def spDraw : Sp := fun vs H Q _ => ∃ (S L : Addr) (ns : List Int) (m : Int), vs = [.ref S, .int m] ∧ Strm S L ns H ∧ 0 < m ∧ m.natAbs < 2 ^ 200 ∧ ∀ r H', 0 ≤ r → r < m → Ex S H H' → Strm S L ns H' → Q (.int r) H'
theorem use_draw {S L : Addr} {ns : List Int} {m : Int} {H : Hp} {Q : VK} {E : XK} (s : Strm S L ns H) (h0 : 0 < m) (h1 : m < 10 ^ 40) (k : ∀ r H', 0 ≤ r → r < m → Ex S H H' → Strm S L ns H' → Q (.int r) H') : spDraw [.ref S, .int m] H Q E :=
  ⟨S, L, ns, m, rfl, s, h0, by omega, k⟩
section
variable {P : Program} {w : World} {K : PySem.W.Frag} {mg : Str → Option Value} {base : Heap}
theorem ok_stream (T : Txt K mg) : FnOk P w K mg base CX0 1 T.a_stream T.d_stream ["_law_script"] (spStream K) := by
  refine T.F_stream.ok sc__law_stream (fun vs H Q E h => ?_) (fun cdv A outer s H vs Q E hr h => ⟨_, (pss_one (ps_ret (pe_lst (pa_cons (pe_callTy call_list_of (by rfl) T.z_list (by decide +kernel) (pa_cons (pv 0) pa_nil)) (pa_cons pe_int (pa_cons pe_int (pa_cons pe_int pa_nil))))))), ?_⟩)
  · first | (obtain ⟨rfl, _⟩ := h; rfl) | (obtain ⟨_, rfl, _⟩ := h; rfl) | (obtain ⟨_, _, rfl, _⟩ := h; rfl) | (obtain ⟨_, _, _, rfl, _⟩ := h; rfl) | (obtain ⟨_, _, _, _, rfl, _⟩ := h; rfl) | (obtain ⟨_, _, _, _, _, rfl, _⟩ := h; rfl) | (obtain ⟨_, _, _, _, _, _, rfl, _⟩ := h; rfl) | (obtain ⟨_, _, _, _, _, _, _, rfl, _⟩ := h; rfl) | (obtain ⟨_, _, _, _, _, _, _, _, rfl, _⟩ := h; rfl) | (obtain ⟨_, _, _, _, _, _, _, _, _, rfl, _⟩ := h; rfl) | (obtain ⟨_, _, _, _, _, _, _, _, _, _, rfl, _⟩ := h; rfl) | (obtain ⟨_, _, _, _, _, _, _, _, _, _, _, rfl, _⟩ := h; rfl) | (obtain ⟨_, _, _, _, _, _, _, _, _, _, _, _, rfl, _⟩ := h; rfl) | (obtain ⟨_, _, _, _, _, _, _, _, _, _, _, _, _, rfl, _⟩ := h; rfl) | (obtain ⟨_, _, _, _, _, _, _, _, _, _, _, _, _, _, rfl, _⟩ := h; rfl)
  · obtain ⟨a, ns, rfl, hS, hl, k⟩ := h
    try dsimp only [cxOf, Cx.nox, Cx.wish]
    refine st_of (σ := [some _]) rfl ?_
    walk_at "rd"
    intro L hL
    walk_at "rd"
    intro S hs
    have hs' : H S = none := by
      by_cases e : S = L
      · rw [e, upd_same] at hs
        cases hs
      · rw [upd_ne e] at hs
        exact hs
    refine k S L _ hs' (by walk_at "sm") ⟨⟨0, 0, 0, upd_same, Nat.zero_le _, Int.le_refl _, Int.le_refl _⟩, ?_, ?_, hl⟩
    · have e : L ≠ S := ne_of_none upd_same hs
      rw [upd_ne e]
      exact upd_same
    · exact ne_of_none upd_same hs
theorem ok_draw (T : Txt K mg) : FnOk P w K mg base CX0 1 T.a_draw T.d_draw ["_law_stream_here", "_law_many"] (spDraw) := by
  refine T.F_draw.ok sc__law_draw (fun vs H Q E h => ?_) (fun cdv A outer s H vs Q E hr h => ⟨_, (Evl.pss_cut (ps_if (PW.pt (pw_and (PW.pt (pw_or (pt_cmpR op_eq (pe_ix ix_list (pv 0) pe_int (fun _ _ => rfl)) pe_int (nomark _)) (pw_or1 (pt_cmpR op_eq (pe_ix ix_list (pv 0) pe_int (fun _ _ => rfl)) pe_int (nomark _))))) (pw_and1 (pt_cmpR op_lt (pe_ix ix_list (pv 0) pe_int (fun _ _ => rfl)) (pe_callB call_len_seq (by rfl) T.z_len PySem.boot_len (pa_cons (pe_ix ix_list (pv 0) pe_int (fun _ _ => rfl)) pa_nil)) (nomark _)))))
      (pss_cons (ps_set (i := 2) sc__law_draw.nd rfl (.inl rfl) (pe_ix ix_list (pv 0) pe_int (fun _ _ => rfl)))
      (pss_cons (ps_set (i := 3) sc__law_draw.nd rfl (.inl rfl) (pe_ix ix_list (pe_ix ix_list (pv 0) pe_int (fun _ _ => rfl)) (pv 2) (fun _ _ => rfl)))
      (pss_cons (ps_set (i := 4) sc__law_draw.nd rfl (.inl rfl) (pe_op op_add (pe_op op_mul pe_int (pe_callB call_abs (by rfl) T.z_abs (by decide +kernel) (pa_cons (pv 3) pa_nil))) (pe_callTy call_int1 (by rfl) T.z_int (by decide +kernel) (pa_cons (pe_cmpR op_lt (pv 3) pe_int (nomark _)) pa_nil))))
      (pss_cons (ps_if (pt_cmpR op_lt (pv 4) (pe_op op_mul pe_int (pe_op op_pow pe_int pe_int)) (nomark _))
      (pss_cons (ps_set (i := 4) sc__law_draw.nd rfl (.inl rfl) (pe_op op_mod (pe_callTy call_int1 (by rfl) T.z_int (by decide +kernel) (pa_cons (pe_op op_add (pe_op op_mul (pv 4) pe_int) (pe_op op_mul (pe_op op_add (pe_op op_mul (pv 2) (pv 2)) pe_int) pe_int)) pa_nil)) pe_int))
      (pss_one (ps_set (i := 4) sc__law_draw.nd rfl (.inl rfl) (pe_op op_mod (pe_callTy call_int1 (by rfl) T.z_int (by decide +kernel) (pa_cons (pe_op op_add (pe_op op_add (pe_op op_mul (pe_op op_mul (pv 4) (pv 4)) pe_int) (pe_op op_mul (pv 4) pe_int)) pe_int) pa_nil)) pe_int))))
      pss_nil)
      (pss_cons (ps_asg (pe_op op_add (pv 2) pe_int) (pg_sub (pv 0) pe_int set_list))
      (pss_cons (ps_asg (pv 4) (pg_sub (pv 0) pe_int set_list))
      (pss_one (ps_asg pe_int (pg_sub (pv 0) pe_int set_list)))))))))
      pss_nil)
      (pss_cons (ps_if (pt_cmpR op_eq (pe_ix ix_list (pv 0) pe_int (fun _ _ => rfl)) pe_int (nomark _))
      (pss_one (ps_ret pe_int))
      pss_nil)
      (pss_cons (ps_set (i := 4) sc__law_draw.nd rfl (.inl rfl) (pe_ix ix_list (pv 0) pe_int (fun _ _ => rfl)))
      (pss_cons (ps_asg (pe_op op_fdivW (pv 4) (pv 1)) (pg_sub (pv 0) pe_int set_list))
      (pss_cons (ps_asg (pe_op op_sub (pe_ix ix_list (pv 0) pe_int (fun _ _ => rfl)) pe_int) (pg_sub (pv 0) pe_int set_list))
      (pss_one (ps_ret (pe_op op_mod (pe_callTy call_int1 (by rfl) T.z_int (by decide +kernel) (pa_cons (pv 4) pa_nil)) (pv 1))))))))), ?_⟩)
  · first | (obtain ⟨rfl, _⟩ := h; rfl) | (obtain ⟨_, rfl, _⟩ := h; rfl) | (obtain ⟨_, _, rfl, _⟩ := h; rfl) | (obtain ⟨_, _, _, rfl, _⟩ := h; rfl) | (obtain ⟨_, _, _, _, rfl, _⟩ := h; rfl) | (obtain ⟨_, _, _, _, _, rfl, _⟩ := h; rfl) | (obtain ⟨_, _, _, _, _, _, rfl, _⟩ := h; rfl) | (obtain ⟨_, _, _, _, _, _, _, rfl, _⟩ := h; rfl) | (obtain ⟨_, _, _, _, _, _, _, _, rfl, _⟩ := h; rfl) | (obtain ⟨_, _, _, _, _, _, _, _, _, rfl, _⟩ := h; rfl) | (obtain ⟨_, _, _, _, _, _, _, _, _, _, rfl, _⟩ := h; rfl) | (obtain ⟨_, _, _, _, _, _, _, _, _, _, _, rfl, _⟩ := h; rfl) | (obtain ⟨_, _, _, _, _, _, _, _, _, _, _, _, rfl, _⟩ := h; rfl) | (obtain ⟨_, _, _, _, _, _, _, _, _, _, _, _, _, rfl, _⟩ := h; rfl) | (obtain ⟨_, _, _, _, _, _, _, _, _, _, _, _, _, _, rfl, _⟩ := h; rfl)
  · obtain ⟨S, L, ns, m, rfl, hS, h0, h1, k⟩ := h
    try dsimp only [cxOf, Cx.nox, Cx.wish]
    refine st_of (σ := [some _, some _, none, none, none]) rfl ?_
    obtain ⟨⟨p, n, c, eS, hp, hn, hc⟩, eL, ne, hl⟩ := hS
    have hm : CDivW n m := wide_div h0 h1 (by decide) (by decide)
    refine ⟨fun σ' H' => ∃ x y z, σ' = [some (.ref S), some (.int m), x, y, z] ∧ Ex S H H' ∧ Strm S L ns H', ?_, ?_⟩
    · walk_at "rd"
      have key : ∀ H', Ex S H H' → Strm S L ns H' → (∃ x y z, [some (V.ref S), some (V.int m), none, none, none] = [some (V.ref S), some (V.int m), x, y, z] ∧ Ex S H H' ∧ Strm S L ns H') := fun H' a b => ⟨_, _, _, rfl, a, b⟩
      refine i_d (p := n = 0) (fun hz => ?_) (fun hz => ?_)
      · walk_at "rd"
        refine i_d (fun hl2 => ?_) (fun hl2 => ?_)
        · rw [List.length_map] at hl2
          have hlt : p < ns.length := by omega
          walk_at "rd"
          refine r_ixL (sql eL) (atI_nat (map_at hlt)) ?_
          generalize ns[p] = z
          walk_at "rd"
          refine i_d (fun hb => ?_) (fun hb => ?_)
          · walk_at "rd"
            exact ⟨_, _, _, rfl, Ex.at (Ex.refl _ _), strm_at eL ne hl (by omega) (by omega) (Int.emod_nonneg _ (by decide)) (by decide)⟩
          · walk_at "rd"
            exact ⟨_, _, _, rfl, Ex.at (Ex.refl _ _), strm_at eL ne hl (by omega) (by omega) (by split <;> split <;> omega) (by decide)⟩
        · walk_at "rd"
          exact key H (Ex.refl _ _) ⟨⟨p, n, c, eS, hp, hn, hc⟩, eL, ne, hl⟩
      · walk_at "rd"
        refine i_d (p := c = 0) (fun hz => ?_) (fun hz => ?_)
        · walk_at "rd"
          refine i_d (fun hl2 => ?_) (fun hl2 => ?_)
          · rw [List.length_map] at hl2
            have hlt : p < ns.length := by omega
            walk_at "rd"
            refine r_ixL (sql eL) (atI_nat (map_at hlt)) ?_
            generalize ns[p] = z
            walk_at "rd"
            refine i_d (fun hb => ?_) (fun hb => ?_)
            · walk_at "rd"
              exact ⟨_, _, _, rfl, Ex.at (Ex.refl _ _), strm_at eL ne hl (by omega) (by omega) (Int.emod_nonneg _ (by decide)) (by decide)⟩
            · walk_at "rd"
              exact ⟨_, _, _, rfl, Ex.at (Ex.refl _ _), strm_at eL ne hl (by omega) (by omega) (by split <;> split <;> omega) (by decide)⟩
          · walk_at "rd"
            exact key H (Ex.refl _ _) ⟨⟨p, n, c, eS, hp, hn, hc⟩, eL, ne, hl⟩
        · walk_at "rd"
          exact key H (Ex.refl _ _) ⟨⟨p, n, c, eS, hp, hn, hc⟩, eL, ne, hl⟩
    · rintro σ' H' ⟨x, y, z, rfl, ex, ⟨⟨p, n, c, eS, hp, hn, hc⟩, eL, ne, hl⟩⟩
      have hm : CDivW n m := wide_div h0 h1 (by decide) (by decide)
      walk_at "rd"
      refine i_d (p := c = 0) (fun hz => ?_) (fun hz => ?_)
      · walk_at "rd"
        exact k 0 H' (Int.le_refl _) h0 ex ⟨⟨p, n, c, eS, hp, hn, hc⟩, eL, ne, hl⟩
      · walk_at "rd"
        exact k _ _ (Int.emod_nonneg _ (by omega)) (Int.emod_lt_of_pos _ h0) (Ex.at ex) (strm_at eL ne hl (by omega) (by omega) (Int.ediv_nonneg hn (by omega)) (by omega))
end

end Tac1
section Tac2
/-! ### the words: "rd" goes on as far as it can; "hp" finds what stands at an address; "t" "f" a test that is known -/
local macro_rules | `(tactic| walk_at "h0") => `(tactic| first | (with_reducible assumption) | with_reducible exact upd_same)
local macro_rules | `(tactic| walk_at "n0") => `(tactic| first
  | (with_reducible assumption) | (apply Ne.symm; with_reducible assumption) | exact ne_nn (by with_reducible assumption) (by walk_at "h0") | exact ne_nn' (by with_reducible assumption) (by walk_at "h0"))
local macro_rules | `(tactic| walk_at "hq") => `(tactic| first
  | (with_reducible assumption) | with_reducible exact upd_same | exact (upd_ne (by walk_at "n0")).trans (by walk_at "hq"))
local macro_rules | `(tactic| walk_at "ne") => `(tactic| first
  | (with_reducible assumption) | (apply Ne.symm; with_reducible assumption) | exact ne_nn (by with_reducible assumption) (by walk_at "hq") | exact ne_nn' (by with_reducible assumption) (by walk_at "hq"))
local macro_rules | `(tactic| walk_at "sm") => `(tactic| first
  | (with_reducible assumption)
  | with_reducible exact Same.refl _
  | exact same_new (by walk_at "sm") (by with_reducible assumption)
  | exact same_mut (by walk_at "sm") (by with_reducible assumption))
local macro_rules | `(tactic| walk_at "hp") => `(tactic| first
  | (with_reducible assumption)
  | with_reducible exact upd_same
  | exact new_at (by with_reducible assumption) (by walk_at "sm")
  | exact old_at (by with_reducible assumption) (by walk_at "sm")
  | exact (upd_ne (by walk_at "ne")).trans (by walk_at "hp")
  | exact same_at (by with_reducible assumption) (by walk_at "hp")
  | exact ex_at (by with_reducible assumption) (by walk_at "ne") (by walk_at "hp"))
local macro_rules | `(tactic| walk_at "ex") => `(tactic| first
  | (with_reducible assumption)
  | exact Ex.refl _ _
  | exact Ex.new (by walk_at "ex") (by with_reducible assumption)
  | exact Ex.mut (by walk_at "ex") (by with_reducible assumption)
  | exact Ex.at (by walk_at "ex"))
local macro_rules | `(tactic| walk_at "sa") => `(tactic| first
  | (with_reducible assumption)
  | exact seq' (by with_reducible assumption) (by walk_at "sm")
  | exact tup' (by with_reducible assumption) (by walk_at "sm"))
local macro_rules | `(tactic| walk_at "sq") => `(tactic| first
  | (with_reducible assumption)
  | exact seq' (by with_reducible assumption) (by walk_at "sm")
  | exact tup' (by with_reducible assumption) (by walk_at "sm")
  | exact sql (by walk_at "hp")
  | exact sqt (by walk_at "hp"))
local macro_rules | `(tactic| walk_at "tt") => `(tactic| first | (simp; done) | (simp; omega))
local macro_rules | `(tactic| walk_at "tf") => `(tactic| first
  | ((with_reducible show if _ = true then _ else _); refine i_T (by walk_at "tt") ?_)
  | ((with_reducible show if _ = true then _ else _); refine i_F (by walk_at "tt") ?_))
local macro_rules | `(tactic| walk_at "ix") => `(tactic| first
  | exact ixn (j := 0) (by simp)
  | exact ixn (j := 1) (by simp)
  | exact ixn (j := 2) (by simp)
  | exact ixn (j := 3) (by simp)
  | exact ixn (j := 4) (by simp)
  | exact ixn (j := 5) (by simp)
  | exact ixn (j := 6) (by simp)
  | exact ixn (j := 7) (by simp))
local macro_rules | `(tactic| walk_at "at") => `(tactic| first
  | exact atI_nat (j := 0) (by rfl)
  | exact atI_nat (j := 1) (by rfl)
  | exact atI_nat (j := 2) (by rfl)
  | exact atI_nat (j := 3) (by rfl)
  | exact atI_nat (j := 4) (by rfl)
  | exact atI_nat (j := 5) (by rfl)
  | exact atI_nat (j := 6) (by rfl)
  | exact atI_nat (j := 7) (by rfl))
local macro_rules | `(tactic| walk_at "rd1") => `(tactic| first
  | with_reducible refine c_seq ?_
  | with_reducible refine c_asg ?_
  | ((with_reducible refine c_gname ?_); try dsimp only [List.set])
  | with_reducible refine c_ret ?_
  | with_reducible refine c_ifs ?_
  | ((with_reducible show tVar _ _ _ _); refine c_var (by rfl) ?_)
  | with_reducible refine c_c ?_
  | with_reducible refine c_op ?_
  | with_reducible refine c_un ?_
  | with_reducible refine c_test ?_
  | with_reducible refine c_B ?_
  | with_reducible refine c_CB ?_
  | with_reducible refine c_cons ?_
  | with_reducible refine c_nil ?_
  | with_reducible refine c_call ?_
  | with_reducible refine c_lst ?_
  | with_reducible refine c_tup ?_
  | with_reducible refine c_drop ?_
  | with_reducible refine c_gsub ?_
  | with_reducible refine c_BM ?_
  | with_reducible refine c_BM0 ?_
  | with_reducible refine c_and ?_
  | with_reducible refine c_or ?_
  | with_reducible refine c_not ?_
  | with_reducible refine c_andV ?_
  | with_reducible refine c_orV ?_
  | with_reducible refine c_notV ?_
  | with_reducible refine c_if ?_
  | with_reducible refine c_chain ?_
  | with_reducible refine c_next ?_
  | with_reducible refine c_retN ?_
  | with_reducible refine c_yes ?_
  | ((with_reducible show rIn _ _ (V.bl _) _ _ _); first | refine r_inL (by walk_at "sq") rfl (flat_bl _) ?_ | refine r_inL (by walk_at "sq") rfl (by rfl) ?_)
  | with_reducible refine r_I0 ?_
  | with_reducible refine r_U ?_
  | with_reducible refine r_eqI ?_
  | with_reducible refine r_neI ?_
  | with_reducible refine r_eqB ?_
  | with_reducible refine r_neB ?_
  | with_reducible refine r_eqS ?_
  | with_reducible refine r_neS ?_
  | ((with_reducible show rIxL _ _ (V.int (OfNat.ofNat _)) _ _); refine r_ixL (by walk_at "sq") (by walk_at "at") ?_)
  | ((with_reducible show rIxT _ _ (V.int (OfNat.ofNat _)) _ _); refine r_ixT (by walk_at "sq") (by walk_at "at") ?_)
  | ((with_reducible show rI CMul _ _ _ _ _); refine r_I (by first | exact .inl ⟨by omega, by omega⟩ | exact .inr ⟨by omega, by omega⟩) ?_)
  | ((with_reducible show rI CDiv _ _ _ _ _); refine r_I ⟨by omega, by omega⟩ ?_)
  | ((with_reducible show rI (fun _ _ => _) _ _ _ _ _); refine r_I (by first | assumption | omega | decide) ?_)
  | with_reducible refine r_pow18 ?_
  | with_reducible refine r_pow17 ?_
  | ((with_reducible show rSetL _ _ _ _ _); refine r_setL (by walk_at "hp") (by walk_at "ix") ?_; try dsimp only [List.set]; try simp only [upd_upd])
  | ((with_reducible show tyV _ _ _ _ ∧ _); refine ⟨.inl ⟨rfl, _, by walk_at "sq"⟩, ?_⟩)
  | ((with_reducible show rPop _ _ _ _); refine r_pop (by walk_at "hp") ?_)
  | ((with_reducible show rAppend _ _ _ _); refine r_app (by walk_at "hp") (by first | assumption | exact smallLt (by omega) | exact smallLt (by simp <;> omega)) ?_)
  | ((with_reducible show _ ≤ sizeLine ∧ _); refine ⟨small (by simp), ?_⟩)
  | ((with_reducible show V.non = V.non ∧ _); refine ⟨rfl, ?_⟩)
  | with_reducible refine iteT ?_
  | with_reducible refine iteF ?_
  | with_reducible refine ⟨_, rfl, ?_⟩
  | with_reducible refine ⟨_, _, rfl, ?_⟩
  | with_reducible refine Or.inl ⟨_, rfl, ?_⟩
  | with_reducible refine Or.inr ⟨_, rfl, ?_⟩
  | ((with_reducible show ∃ _ _, [_] = [_] ∧ _); first
    | refine ⟨_, _, rfl, Or.inl (by walk_at "sa"), ?_⟩ | refine ⟨_, _, rfl, Or.inr (by walk_at "sa"), ?_⟩
    | refine ⟨_, _, rfl, Or.inl (by exact sql (by walk_at "hp")), ?_⟩ | refine ⟨_, _, rfl, Or.inr (by exact sqt (by walk_at "hp")), ?_⟩))
local macro_rules | `(tactic| walk_at "nw") => `(tactic| (intro _ _))
local macro_rules | `(tactic| walk_at "rdn") => `(tactic| repeat (first | walk_at "rd1" | ((with_reducible show ∀ _ : Addr, _ = none → _); intro _ _)))
local macro_rules | `(tactic| walk_at "rd") => `(tactic| repeat walk_at "rd1")

local macro_rules | `(tactic| walk_at "tp") => `(tactic| first
  | (with_reducible assumption)
  | with_reducible exact Tp.refl _
  | exact Tp.same (by walk_at "sm")
  | exact Tp.new (by walk_at "tp") (by with_reducible assumption)
  | exact Tp.lst (by walk_at "tp") (by walk_at "hp"))
local macro_rules | `(tactic| walk_at "rd1") => `(tactic| first
  | with_reducible refine c_sl ?_
  | with_reducible refine c_noPart ?_
  | with_reducible refine c_part ?_
  | ((with_reducible show rSlL _ _ _ _ _ _); refine r_slL (by walk_at "sq") ?_))
local macro_rules | `(tactic| walk_at "no") => `(tactic| ((with_reducible show if decide _ = true then _ else _); refine i_F (decide_eq_false (by decide +kernel)) ?_))
local macro_rules | `(tactic| walk_at "yes") => `(tactic| ((with_reducible show if decide _ = true then _ else _); refine i_T (decide_eq_true (by first | rfl | decide +kernel)) ?_))
local macro_rules | `(tactic| walk_at "wd") => `(tactic| repeat (first | walk_at "rd1" | walk_at "no" | walk_at "yes"))

local macro_rules | `(tactic| walk_at "rd1") => `(tactic| first
  | with_reducible refine c_gcons ?_
  | with_reducible refine c_gnil ?_
  | ((with_reducible show gTup _ _ _ _ _ _ _); refine c_gtup (by walk_at "sq") (by rfl) ?_))

def PB (x : V) : Prop := ∃ b, x = .bl b
def PM (x : V) : Prop := ∃ i, x = .int i
def spJo (J : Wd → V → V → V) (Pv : V → Prop) : Sp := fun vs H Q _ => ∃ (w : Wd) (x y : V), vs = [.str w.s, x, y] ∧ Pv x ∧ Pv y ∧ Q (J w x y) H
def spInt2 (f : Int → Int → Int) : Sp := fun vs H Q _ => ∃ a b, vs = [.int a, .int b] ∧ Q (.int (f a b)) H
def spJoined (K : PySem.W.Frag) (J : Wd → V → V → V) (Pv : V → Prop) (f : Addr) (fu : Nat) : Sp := fun vs H Q _ => ∃ (v : V) (t : JT) (g : Addr) (us : List V), vs = [v, .ref g, .ref f] ∧ JR K H v t ∧ t.dep ≤ fu ∧ fu ≤ 20 ∧ SqL K H g us ∧ (∀ i ∈ t.lvs, ∃ x, us[i]? = some x ∧ Pv x) ∧ (Pv (evV J us t) → Q (evV J us t) H)
theorem spJoined_zero {K : PySem.W.Frag} {J : Wd → V → V → V} {Pv : V → Prop} {f : Addr} {vs : List V} {H : Hp} {Q : VK} {E : XK} (h : spJoined K J Pv f 0 vs H Q E) : False := by
  obtain ⟨v, t, g, us, _, _, hd, _⟩ := h
  cases t <;> simp [JT.dep] at hd
section
variable {P : Program} {w : World} {K : PySem.W.Frag} {mg : Str → Option Value} {base : Heap}
theorem ok_both_mark (T : Txt K mg) : FnOk P w K mg base CX0 1 T.a_both_mark T.d_both_mark ["a", "b"] (spInt2 (jM .a)) := by
  refine T.F_both_mark.ok sc_both_mark (fun vs H Q E h => ?_) (fun cdv A outer s H vs Q E hr h => ⟨_, (pss_one (ps_ret (pe_callB (call_min2 rfl) (by rfl) T.z_min (by decide +kernel) (pa_cons (pv 0) (pa_cons (pv 1) pa_nil))))), ?_⟩)
  · first | (obtain ⟨rfl, _⟩ := h; rfl) | (obtain ⟨_, rfl, _⟩ := h; rfl) | (obtain ⟨_, _, rfl, _⟩ := h; rfl) | (obtain ⟨_, _, _, rfl, _⟩ := h; rfl) | (obtain ⟨_, _, _, _, rfl, _⟩ := h; rfl) | (obtain ⟨_, _, _, _, _, rfl, _⟩ := h; rfl) | (obtain ⟨_, _, _, _, _, _, rfl, _⟩ := h; rfl) | (obtain ⟨_, _, _, _, _, _, _, rfl, _⟩ := h; rfl) | (obtain ⟨_, _, _, _, _, _, _, _, rfl, _⟩ := h; rfl) | (obtain ⟨_, _, _, _, _, _, _, _, _, rfl, _⟩ := h; rfl) | (obtain ⟨_, _, _, _, _, _, _, _, _, _, rfl, _⟩ := h; rfl) | (obtain ⟨_, _, _, _, _, _, _, _, _, _, _, rfl, _⟩ := h; rfl) | (obtain ⟨_, _, _, _, _, _, _, _, _, _, _, _, rfl, _⟩ := h; rfl) | (obtain ⟨_, _, _, _, _, _, _, _, _, _, _, _, _, rfl, _⟩ := h; rfl) | (obtain ⟨_, _, _, _, _, _, _, _, _, _, _, _, _, _, rfl, _⟩ := h; rfl)
  · obtain ⟨a, b, rfl, k⟩ := h
    try dsimp only [cxOf, Cx.nox, Cx.wish]
    refine st_of (σ := [some _, some _]) rfl ?_
    walk_at "rd"
    exact k
theorem ok_either_mark (T : Txt K mg) : FnOk P w K mg base CX0 1 T.a_either_mark T.d_either_mark ["a", "b"] (spInt2 (jM .o)) := by
  refine T.F_either_mark.ok sc_either_mark (fun vs H Q E h => ?_) (fun cdv A outer s H vs Q E hr h => ⟨_, (pss_one (ps_ret (pe_callB (call_max2 rfl) (by rfl) T.z_max (by decide +kernel) (pa_cons (pv 0) (pa_cons (pv 1) pa_nil))))), ?_⟩)
  · first | (obtain ⟨rfl, _⟩ := h; rfl) | (obtain ⟨_, rfl, _⟩ := h; rfl) | (obtain ⟨_, _, rfl, _⟩ := h; rfl) | (obtain ⟨_, _, _, rfl, _⟩ := h; rfl) | (obtain ⟨_, _, _, _, rfl, _⟩ := h; rfl) | (obtain ⟨_, _, _, _, _, rfl, _⟩ := h; rfl) | (obtain ⟨_, _, _, _, _, _, rfl, _⟩ := h; rfl) | (obtain ⟨_, _, _, _, _, _, _, rfl, _⟩ := h; rfl) | (obtain ⟨_, _, _, _, _, _, _, _, rfl, _⟩ := h; rfl) | (obtain ⟨_, _, _, _, _, _, _, _, _, rfl, _⟩ := h; rfl) | (obtain ⟨_, _, _, _, _, _, _, _, _, _, rfl, _⟩ := h; rfl) | (obtain ⟨_, _, _, _, _, _, _, _, _, _, _, rfl, _⟩ := h; rfl) | (obtain ⟨_, _, _, _, _, _, _, _, _, _, _, _, rfl, _⟩ := h; rfl) | (obtain ⟨_, _, _, _, _, _, _, _, _, _, _, _, _, rfl, _⟩ := h; rfl) | (obtain ⟨_, _, _, _, _, _, _, _, _, _, _, _, _, _, rfl, _⟩ := h; rfl)
  · obtain ⟨a, b, rfl, k⟩ := h
    try dsimp only [cxOf, Cx.nox, Cx.wish]
    refine st_of (σ := [some _, some _]) rfl ?_
    walk_at "rd"
    exact k
theorem ok_less_mark (T : Txt K mg) : FnOk P w K mg base CX0 1 T.a_less_mark T.d_less_mark ["a", "b"] (spInt2 (jM .l)) := by
  refine T.F_less_mark.ok sc_less_mark (fun vs H Q E h => ?_) (fun cdv A outer s H vs Q E hr h => ⟨_, (pss_one (ps_ret (pe_callB (call_min2 rfl) (by rfl) T.z_min (by decide +kernel) (pa_cons (pv 0) (pa_cons (pe_op op_sub pe_int (pv 1)) pa_nil))))), ?_⟩)
  · first | (obtain ⟨rfl, _⟩ := h; rfl) | (obtain ⟨_, rfl, _⟩ := h; rfl) | (obtain ⟨_, _, rfl, _⟩ := h; rfl) | (obtain ⟨_, _, _, rfl, _⟩ := h; rfl) | (obtain ⟨_, _, _, _, rfl, _⟩ := h; rfl) | (obtain ⟨_, _, _, _, _, rfl, _⟩ := h; rfl) | (obtain ⟨_, _, _, _, _, _, rfl, _⟩ := h; rfl) | (obtain ⟨_, _, _, _, _, _, _, rfl, _⟩ := h; rfl) | (obtain ⟨_, _, _, _, _, _, _, _, rfl, _⟩ := h; rfl) | (obtain ⟨_, _, _, _, _, _, _, _, _, rfl, _⟩ := h; rfl) | (obtain ⟨_, _, _, _, _, _, _, _, _, _, rfl, _⟩ := h; rfl) | (obtain ⟨_, _, _, _, _, _, _, _, _, _, _, rfl, _⟩ := h; rfl) | (obtain ⟨_, _, _, _, _, _, _, _, _, _, _, _, rfl, _⟩ := h; rfl) | (obtain ⟨_, _, _, _, _, _, _, _, _, _, _, _, _, rfl, _⟩ := h; rfl) | (obtain ⟨_, _, _, _, _, _, _, _, _, _, _, _, _, _, rfl, _⟩ := h; rfl)
  · obtain ⟨a, b, rfl, k⟩ := h
    try dsimp only [cxOf, Cx.nox, Cx.wish]
    refine st_of (σ := [some _, some _]) rfl ?_
    walk_at "rd"
    exact k
theorem ok_joined_truth (T : Txt K mg) : FnOk P w K mg base CX0 2 T.a_joined_truth T.d_joined_truth ["word", "t", "u"] (spJo vB PB) := by
  refine T.F_joined_truth.ok sc_joined_truth (fun vs H Q E h => ?_) (fun cdv A outer s H vs Q E hr h => ⟨_, (pss_cons (ps_if (pt_cmpR op_eq (pv 0) pe_str (nomark _))
      (pss_one (ps_ret (pe_and (pv 1) (pe_one (pv 2)))))
      pss_nil)
      (pss_cons (ps_if (pt_cmpR op_eq (pv 0) pe_str (nomark _))
      (pss_one (ps_ret (pe_or (pv 1) (pe_one (pv 2)))))
      pss_nil)
      (pss_one (ps_ret (pe_and (pv 1) (pe_one (pe_not (pv 2)))))))), ?_⟩)
  · first | (obtain ⟨rfl, _⟩ := h; rfl) | (obtain ⟨_, rfl, _⟩ := h; rfl) | (obtain ⟨_, _, rfl, _⟩ := h; rfl) | (obtain ⟨_, _, _, rfl, _⟩ := h; rfl) | (obtain ⟨_, _, _, _, rfl, _⟩ := h; rfl) | (obtain ⟨_, _, _, _, _, rfl, _⟩ := h; rfl) | (obtain ⟨_, _, _, _, _, _, rfl, _⟩ := h; rfl) | (obtain ⟨_, _, _, _, _, _, _, rfl, _⟩ := h; rfl) | (obtain ⟨_, _, _, _, _, _, _, _, rfl, _⟩ := h; rfl) | (obtain ⟨_, _, _, _, _, _, _, _, _, rfl, _⟩ := h; rfl) | (obtain ⟨_, _, _, _, _, _, _, _, _, _, rfl, _⟩ := h; rfl) | (obtain ⟨_, _, _, _, _, _, _, _, _, _, _, rfl, _⟩ := h; rfl) | (obtain ⟨_, _, _, _, _, _, _, _, _, _, _, _, rfl, _⟩ := h; rfl) | (obtain ⟨_, _, _, _, _, _, _, _, _, _, _, _, _, rfl, _⟩ := h; rfl) | (obtain ⟨_, _, _, _, _, _, _, _, _, _, _, _, _, _, rfl, _⟩ := h; rfl)
  · obtain ⟨w, x, y, rfl, ⟨t, rfl⟩, ⟨u, rfl⟩, k⟩ := h
    try dsimp only [cxOf, Cx.nox, Cx.wish]
    refine st_of (σ := [some _, some _, some _]) rfl ?_
    cases w <;> cases t <;> cases u <;> dsimp only [Wd.s] at * <;> walk_at "wd" <;> exact k
theorem ok_joined_mark (T : Txt K mg) : FnOk P w K mg base CX0 2 T.a_joined_mark T.d_joined_mark ["word", "a", "b"] (spJo vM PM) := by
  refine T.F_joined_mark.ok sc_joined_mark (fun vs H Q E h => ?_) (fun cdv A outer s H vs Q E hr h => ⟨_, (pss_cons (ps_if (pt_cmpR op_eq (pv 0) pe_str (nomark _))
      (pss_one (ps_ret (pe_call (ok_both_mark T) (hr.mono (by decide)) (by rfl) T.g_both_mark T.F_both_mark.kp T.b_both_mark .nil pass0 (pa_cons (pv 1) (pa_cons (pv 2) pa_nil)))))
      pss_nil)
      (pss_cons (ps_if (pt_cmpR op_eq (pv 0) pe_str (nomark _))
      (pss_one (ps_ret (pe_call (ok_either_mark T) (hr.mono (by decide)) (by rfl) T.g_either_mark T.F_either_mark.kp T.b_either_mark .nil pass0 (pa_cons (pv 1) (pa_cons (pv 2) pa_nil)))))
      pss_nil)
      (pss_one (ps_ret (pe_call (ok_less_mark T) (hr.mono (by decide)) (by rfl) T.g_less_mark T.F_less_mark.kp T.b_less_mark .nil pass0 (pa_cons (pv 1) (pa_cons (pv 2) pa_nil))))))), ?_⟩)
  · first | (obtain ⟨rfl, _⟩ := h; rfl) | (obtain ⟨_, rfl, _⟩ := h; rfl) | (obtain ⟨_, _, rfl, _⟩ := h; rfl) | (obtain ⟨_, _, _, rfl, _⟩ := h; rfl) | (obtain ⟨_, _, _, _, rfl, _⟩ := h; rfl) | (obtain ⟨_, _, _, _, _, rfl, _⟩ := h; rfl) | (obtain ⟨_, _, _, _, _, _, rfl, _⟩ := h; rfl) | (obtain ⟨_, _, _, _, _, _, _, rfl, _⟩ := h; rfl) | (obtain ⟨_, _, _, _, _, _, _, _, rfl, _⟩ := h; rfl) | (obtain ⟨_, _, _, _, _, _, _, _, _, rfl, _⟩ := h; rfl) | (obtain ⟨_, _, _, _, _, _, _, _, _, _, rfl, _⟩ := h; rfl) | (obtain ⟨_, _, _, _, _, _, _, _, _, _, _, rfl, _⟩ := h; rfl) | (obtain ⟨_, _, _, _, _, _, _, _, _, _, _, _, rfl, _⟩ := h; rfl) | (obtain ⟨_, _, _, _, _, _, _, _, _, _, _, _, _, rfl, _⟩ := h; rfl) | (obtain ⟨_, _, _, _, _, _, _, _, _, _, _, _, _, _, rfl, _⟩ := h; rfl)
  · obtain ⟨w, x, y, rfl, ⟨t, rfl⟩, ⟨u, rfl⟩, k⟩ := h
    try dsimp only [cxOf, Cx.nox, Cx.wish]
    refine st_of (σ := [some _, some _, some _]) rfl ?_
    cases w <;> dsimp only [Wd.s] at * <;> walk_at "wd"
    all_goals exact ⟨_, _, rfl, k⟩
variable {J : Wd → V → V → V} {Pv : V → Prop} {f : Addr} {fd : FuncData} {ps : List Str} (hJ : ∀ w x y, Pv x → Pv y → Pv (J w x y)) (hF : FnOk P w K mg base CX0 2 f fd ps (spJo J Pv)) (hk : PySem.W.keepIn K (.ref f) = true) (hb : Binds K fd ps [])
include hJ hF hk hb
theorem ok_joined (T : Txt K mg) : ∀ fu : Nat, FnOk P w K mg base CX0 (fu + 2) T.a_joined T.d_joined ["tree", "given", "joining"] (spJoined K J Pv f fu) := by
  refine Nat.rec (motive := fun fu => FnOk P w K mg base CX0 (fu + 2) T.a_joined T.d_joined ["tree", "given", "joining"] (spJoined K J Pv f fu)) ⟨fun vs H Q E h => (spJoined_zero h).elim, fun _ _ _ _ _ _ _ _ _ _ _ _ _ h => (spJoined_zero h).elim⟩ (fun fu ih => ?_)
  refine T.F_joined.ok sc_joined (fun vs H Q E h => ?_) (fun cdv A outer s H vs Q E hr h => ⟨_, (pss_cons (ps_if (pt_val (pe_callB call_isi (by rfl) T.z_isinstance (by decide +kernel) (pa_cons (pv 0) (pa_cons (pe_bltn (v := .ty "int") (by rfl) T.z_int (by decide +kernel) rfl) pa_nil))))
      (pss_one (ps_ret (pe_ix ix_list (pv 1) (pv 0) (fun _ _ => rfl))))
      pss_nil)
      (pss_cons (ps_asg (pv 0) (pg_tup (by rfl) (pgs_cons (pg_name (i := 3) sc_joined.nd rfl (.inl rfl)) (pgs_cons (pg_name (i := 4) sc_joined.nd rfl (.inl rfl)) (pgs_cons (pg_name (i := 5) sc_joined.nd rfl (.inl rfl)) pgs_nil)))))
      (pss_cons (ps_set (i := 6) sc_joined.nd rfl (.inl rfl) (pe_call ih (hr.mono (by omega)) (by rfl) T.g_joined T.F_joined.kp T.b_joined .nil pass0 (pa_cons (pv 4) (pa_cons (pv 1) (pa_cons (pv 2) pa_nil)))))
      (pss_cons (ps_set (i := 7) sc_joined.nd rfl (.inl rfl) (pe_call ih (hr.mono (by omega)) (by rfl) T.g_joined T.F_joined.kp T.b_joined .nil pass0 (pa_cons (pv 5) (pa_cons (pv 1) (pa_cons (pv 2) pa_nil)))))
      (pss_one (ps_ret (pe_callL (i := 2) hF (hr.mono (by omega)) (by rfl) (.inl rfl) hk hb .nil pass0 (pa_cons (pv 3) (pa_cons (pv 6) (pa_cons (pv 7) pa_nil)))))))))), ?_⟩)
  · first | (obtain ⟨rfl, _⟩ := h; rfl) | (obtain ⟨_, rfl, _⟩ := h; rfl) | (obtain ⟨_, _, rfl, _⟩ := h; rfl) | (obtain ⟨_, _, _, rfl, _⟩ := h; rfl) | (obtain ⟨_, _, _, _, rfl, _⟩ := h; rfl) | (obtain ⟨_, _, _, _, _, rfl, _⟩ := h; rfl) | (obtain ⟨_, _, _, _, _, _, rfl, _⟩ := h; rfl) | (obtain ⟨_, _, _, _, _, _, _, rfl, _⟩ := h; rfl) | (obtain ⟨_, _, _, _, _, _, _, _, rfl, _⟩ := h; rfl) | (obtain ⟨_, _, _, _, _, _, _, _, _, rfl, _⟩ := h; rfl) | (obtain ⟨_, _, _, _, _, _, _, _, _, _, rfl, _⟩ := h; rfl) | (obtain ⟨_, _, _, _, _, _, _, _, _, _, _, rfl, _⟩ := h; rfl) | (obtain ⟨_, _, _, _, _, _, _, _, _, _, _, _, rfl, _⟩ := h; rfl) | (obtain ⟨_, _, _, _, _, _, _, _, _, _, _, _, _, rfl, _⟩ := h; rfl) | (obtain ⟨_, _, _, _, _, _, _, _, _, _, _, _, _, _, rfl, _⟩ := h; rfl)
  · obtain ⟨v, t, g, us, rfl, hv, hd, hf, hg, hus, k⟩ := h
    try dsimp only [cxOf, Cx.nox, Cx.wish]
    refine st_of (σ := [some _, some _, some _, none, none, none, none, none]) rfl ?_
    cases hv with
    | leaf i =>
      obtain ⟨x, hx, px⟩ := hus i (by simp [JT.lvs])
      walk_at "rd"
      refine r_isi (b := true) (.base (.int _)) (by decide +kernel) ?_
      walk_at "rd"
      refine r_ixL hg (atI_nat hx) ?_
      walk_at "rd"
      have e : evV J us (.leaf i) = x := by
        show us.getD i .non = x
        rw [List.getD_eq_getElem?_getD, hx] <;> rfl
      rw [e] at k
      exact k px
    | nd ht hl hr2 =>
      rename_i vl vr w l r
      simp only [JT.dep] at hd
      walk_at "rd"
      refine r_isi (b := false) (ty_tup ht) (by decide +kernel) ?_
      walk_at "rd"
      refine ⟨vl, l, g, us, rfl, hl, by omega, by omega, hg, fun i hi => hus i (by simp [JT.lvs, hi]), fun p1 => ?_⟩
      walk_at "rd"
      refine ⟨vr, r, g, us, rfl, hr2, by omega, by omega, hg, fun i hi => hus i (by simp [JT.lvs, hi]), fun p2 => ?_⟩
      walk_at "rd"
      refine c_callL rfl ?_
      walk_at "rd"
      exact ⟨w, _, _, rfl, p1, p2, k (hJ _ _ _ p1 p2)⟩
omit hJ hF hk hb
def spTree (K : PySem.W.Frag) (J : Wd → V → V → V) (Pv : V → Prop) : Sp := fun vs H Q _ => ∃ (v : V) (t : JT) (g : Addr) (us : List V), vs = [v, .ref g] ∧ JR K H v t ∧ t.dep ≤ 20 ∧ SqL K H g us ∧ (∀ i ∈ t.lvs, ∃ x, us[i]? = some x ∧ Pv x) ∧ (Pv (evV J us t) → Q (evV J us t) H)
theorem vB_ok : ∀ w x y, PB x → PB y → PB (vB w x y) := by
  rintro w _ _ ⟨a, rfl⟩ ⟨b, rfl⟩
  exact ⟨_, rfl⟩
theorem vM_ok : ∀ w x y, PM x → PM y → PM (vM w x y) := by
  rintro w _ _ ⟨a, rfl⟩ ⟨b, rfl⟩
  exact ⟨_, rfl⟩
theorem ok_tree_truth (T : Txt K mg) : FnOk P w K mg base CX0 23 T.a_tree_truth T.d_tree_truth ["tree", "truths"] (spTree K vB PB) := by
  refine T.F_tree_truth.ok sc_tree_truth (fun vs H Q E h => ?_) (fun cdv A outer s H vs Q E hr h => ⟨_, (pss_one (ps_ret (pe_call (ok_joined vB_ok (ok_joined_truth T) T.F_joined_truth.kp T.b_joined_truth T 20) (hr.mono (by decide)) (by rfl) T.g_joined T.F_joined.kp T.b_joined .nil pass0 (pa_cons (pv 0) (pa_cons (pv 1) (pa_cons (pe_glob (v := .ref T.a_joined_truth) rfl T.g_joined_truth rfl) pa_nil)))))), ?_⟩)
  · first | (obtain ⟨rfl, _⟩ := h; rfl) | (obtain ⟨_, rfl, _⟩ := h; rfl) | (obtain ⟨_, _, rfl, _⟩ := h; rfl) | (obtain ⟨_, _, _, rfl, _⟩ := h; rfl) | (obtain ⟨_, _, _, _, rfl, _⟩ := h; rfl) | (obtain ⟨_, _, _, _, _, rfl, _⟩ := h; rfl) | (obtain ⟨_, _, _, _, _, _, rfl, _⟩ := h; rfl) | (obtain ⟨_, _, _, _, _, _, _, rfl, _⟩ := h; rfl) | (obtain ⟨_, _, _, _, _, _, _, _, rfl, _⟩ := h; rfl) | (obtain ⟨_, _, _, _, _, _, _, _, _, rfl, _⟩ := h; rfl) | (obtain ⟨_, _, _, _, _, _, _, _, _, _, rfl, _⟩ := h; rfl) | (obtain ⟨_, _, _, _, _, _, _, _, _, _, _, rfl, _⟩ := h; rfl) | (obtain ⟨_, _, _, _, _, _, _, _, _, _, _, _, rfl, _⟩ := h; rfl) | (obtain ⟨_, _, _, _, _, _, _, _, _, _, _, _, _, rfl, _⟩ := h; rfl) | (obtain ⟨_, _, _, _, _, _, _, _, _, _, _, _, _, _, rfl, _⟩ := h; rfl)
  · obtain ⟨v, t, g, us, rfl, hv, hd, hg, hus, k⟩ := h
    try dsimp only [cxOf, Cx.nox, Cx.wish]
    refine st_of (σ := [some _, some _]) rfl ?_
    walk_at "rd"
    exact ⟨v, t, g, us, rfl, hv, hd, by decide, hg, hus, k⟩
theorem ok_tree_mark (T : Txt K mg) : FnOk P w K mg base CX0 23 T.a_tree_mark T.d_tree_mark ["tree", "marks"] (spTree K vM PM) := by
  refine T.F_tree_mark.ok sc_tree_mark (fun vs H Q E h => ?_) (fun cdv A outer s H vs Q E hr h => ⟨_, (pss_one (ps_ret (pe_call (ok_joined vM_ok (ok_joined_mark T) T.F_joined_mark.kp T.b_joined_mark T 20) (hr.mono (by decide)) (by rfl) T.g_joined T.F_joined.kp T.b_joined .nil pass0 (pa_cons (pv 0) (pa_cons (pv 1) (pa_cons (pe_glob (v := .ref T.a_joined_mark) rfl T.g_joined_mark rfl) pa_nil)))))), ?_⟩)
  · first | (obtain ⟨rfl, _⟩ := h; rfl) | (obtain ⟨_, rfl, _⟩ := h; rfl) | (obtain ⟨_, _, rfl, _⟩ := h; rfl) | (obtain ⟨_, _, _, rfl, _⟩ := h; rfl) | (obtain ⟨_, _, _, _, rfl, _⟩ := h; rfl) | (obtain ⟨_, _, _, _, _, rfl, _⟩ := h; rfl) | (obtain ⟨_, _, _, _, _, _, rfl, _⟩ := h; rfl) | (obtain ⟨_, _, _, _, _, _, _, rfl, _⟩ := h; rfl) | (obtain ⟨_, _, _, _, _, _, _, _, rfl, _⟩ := h; rfl) | (obtain ⟨_, _, _, _, _, _, _, _, _, rfl, _⟩ := h; rfl) | (obtain ⟨_, _, _, _, _, _, _, _, _, _, rfl, _⟩ := h; rfl) | (obtain ⟨_, _, _, _, _, _, _, _, _, _, _, rfl, _⟩ := h; rfl) | (obtain ⟨_, _, _, _, _, _, _, _, _, _, _, _, rfl, _⟩ := h; rfl) | (obtain ⟨_, _, _, _, _, _, _, _, _, _, _, _, _, rfl, _⟩ := h; rfl) | (obtain ⟨_, _, _, _, _, _, _, _, _, _, _, _, _, _, rfl, _⟩ := h; rfl)
  · obtain ⟨v, t, g, us, rfl, hv, hd, hg, hus, k⟩ := h
    try dsimp only [cxOf, Cx.nox, Cx.wish]
    refine st_of (σ := [some _, some _]) rfl ?_
    walk_at "rd"
    exact ⟨v, t, g, us, rfl, hv, hd, by decide, hg, hus, k⟩
end

def spTwig : Sp := fun vs H Q _ => ∃ (S L : Addr) (ns : List Int) (c m : Int), vs = [.ref S, .int c, .int m] ∧ Strm S L ns H ∧ 0 < c ∧ c ≤ 20 ∧ 0 < m ∧ m ≤ 20 ∧ ∀ p ls ms H', Ex S H H' → Strm S L ns H' → TwR (Aw S H') p ls ms → (∀ i ∈ ls, (i : Int) < c) → (ls.length : Int) ≤ m → GoodM ls.length ms → Q (.ref p) H'
def spTwigD : Sp := fun vs H Q _ => ∃ (S L : Addr) (ns : List Int) (c : Int), vs = [.ref S, .int c] ∧ Strm S L ns H ∧ 0 < c ∧ c ≤ 20 ∧ ∀ p ls ms H', Ex S H H' → Strm S L ns H' → TwR (Aw S H') p ls ms → (∀ i ∈ ls, (i : Int) < c) → (ls.length : Int) ≤ c → GoodM ls.length ms → Q (.ref p) H'
section
variable {P : Program} {w : World} {K : PySem.W.Frag} {mg : Str → Option Value} {base : Heap}
theorem ok_twig (T : Txt K mg) : FnOk P w K mg base CX0 2 T.a_twig T.d_twig ["_law_stream_here", "_law_count", "_law_most"] (spTwig) := by
  refine T.F_twig.ok sc__law_twig (fun vs H Q E h => ?_) (fun cdv A outer s H vs Q E hr h => ⟨_, (pss_cons (ps_setLc (i := 4) (own := [("_law_k", 3)]) (g := gName 3) (tt := tYes) rfl sc__law_twig.nd rfl rfl (sw_true rfl rfl rfl (by decide +kernel)) (pi_range1 (by rfl) T.z_range (pa_cons (pe_op op_add pe_int (pe_call (ok_draw T) (hr.mono (by decide)) (by rfl) T.g_draw T.F_draw.kp T.b_draw .nil pass0 (pa_cons (pv 0) (pa_cons (pv 2) pa_nil)))) pa_nil)) (blkOk_by (own := [("_law_k", 3)]) (N := N__law_twig) (sc := defScope s__law_twig) (by decide +kernel)) (fun _ _ _ _ _ => pg_name (i := 3) sc__law_twig.nd rfl (Or.inl rfl)) (fun _ _ _ _ _ => pts_nil) (fun _ _ _ _ _ => (pe_call (ok_draw T) (hr.mono (by decide)) (by rfl) T.g_draw T.F_draw.kp T.b_draw .nil pass0 (pa_cons (pv 0) (pa_cons (pv 1) pa_nil)))))
      (pss_cons (ps_set (i := 5) sc__law_twig.nd rfl (.inl rfl) (pe_lst pa_nil))
      (pss_cons (ps_for PassesOwn.never rfl (pi_range1 (by rfl) T.z_range (pa_cons (pe_op op_sub (pe_callB call_len_seq (by rfl) T.z_len PySem.boot_len (pa_cons (pv 4) pa_nil)) pe_int) pa_nil)) (pg_name (i := 3) sc__law_twig.nd rfl (.inl rfl))
      (pss_one (ps_expr (pe_bm PySem.F.plainAttrs_list PySem.F.slot_list_append PySem.F.type_list_append mt_append (pv 5) (pa_cons (pe_lst (pa_cons (pe_call (ok_draw T) (hr.mono (by decide)) (by rfl) T.g_draw T.F_draw.kp T.b_draw .nil pass0 (pa_cons (pv 0) (pa_cons (pe_op op_sub (pe_op op_sub (pe_callB call_len_seq (by rfl) T.z_len PySem.boot_len (pa_cons (pv 4) pa_nil)) pe_int) (pv 3)) pa_nil))) (pa_cons (pe_ix ix_list (pe_lst (pa_cons pe_str (pa_cons pe_str (pa_cons pe_str pa_nil)))) (pe_call (ok_draw T) (hr.mono (by decide)) (by rfl) T.g_draw T.F_draw.kp T.b_draw .nil pass0 (pa_cons (pv 0) (pa_cons pe_int pa_nil))) (fun _ _ => rfl)) pa_nil))) pa_nil)))))
      (pss_one (ps_ret (pe_lst (pa_cons (pv 4) (pa_cons (pv 5) pa_nil)))))))), ?_⟩)
  · first | (obtain ⟨rfl, _⟩ := h; rfl) | (obtain ⟨_, rfl, _⟩ := h; rfl) | (obtain ⟨_, _, rfl, _⟩ := h; rfl) | (obtain ⟨_, _, _, rfl, _⟩ := h; rfl) | (obtain ⟨_, _, _, _, rfl, _⟩ := h; rfl) | (obtain ⟨_, _, _, _, _, rfl, _⟩ := h; rfl) | (obtain ⟨_, _, _, _, _, _, rfl, _⟩ := h; rfl) | (obtain ⟨_, _, _, _, _, _, _, rfl, _⟩ := h; rfl) | (obtain ⟨_, _, _, _, _, _, _, _, rfl, _⟩ := h; rfl) | (obtain ⟨_, _, _, _, _, _, _, _, _, rfl, _⟩ := h; rfl) | (obtain ⟨_, _, _, _, _, _, _, _, _, _, rfl, _⟩ := h; rfl) | (obtain ⟨_, _, _, _, _, _, _, _, _, _, _, rfl, _⟩ := h; rfl) | (obtain ⟨_, _, _, _, _, _, _, _, _, _, _, _, rfl, _⟩ := h; rfl) | (obtain ⟨_, _, _, _, _, _, _, _, _, _, _, _, _, rfl, _⟩ := h; rfl) | (obtain ⟨_, _, _, _, _, _, _, _, _, _, _, _, _, _, rfl, _⟩ := h; rfl)
  · obtain ⟨S, L, ns, c, m, rfl, st, c0, c1, m0, m1, k⟩ := h
    try dsimp only [cxOf, Cx.nox, Cx.wish]
    refine st_of (σ := [some _, some _, some _, none, none, none]) rfl ?_
    walk_at "rd"
    with_reducible refine c_lcR ?_
    walk_at "rd"
    refine use_draw st (by omega) (by omega) (fun r H1 r0 r1 x1 st1 => ?_)
    walk_at "rd"
    refine ⟨by omega, by omega, fun D hD => lc_range (lo := 0) (n := (1 + r).toNat) (fun i G => Strm S L ns G ∧ Ex S H G ∧ ∃ ls : List Nat, ls.length = i ∧ (∀ l ∈ ls, (l : Int) < c) ∧ G D = some (.lst (nts ls))) ?_ ?_ ?_⟩
    · exact ⟨st1.new hD, x1.new hD, [], rfl, fun l hl => (List.not_mem_nil hl).elim, upd_same⟩
    · rintro i G hi ⟨stG, xG, ls, hls, hlc, gD⟩
      have nDS := st1.neS hD
      have nDL := st1.neL hD
      walk_at "rd"
      refine ⟨rfl, ?_⟩
      walk_at "rd"
      refine use_draw stG c0 (by omega) (fun z G2 z0 z1 x2 st2 => ?_)
      refine ⟨_, x2 _ _ nDS gD, smallLt (by rw [nts_len]; omega), st2.upd nDS nDL, ?_, ls ++ [z.toNat], by simp [hls], fun l hl => ?_, ?_⟩
      · exact (xG.trans x2).mut (x1.free nDS hD)
      · rcases List.mem_append.mp hl with hl | hl
        · exact hlc l hl
        · rw [List.mem_singleton.mp hl]
          omega
      · rw [upd_same, nts_snoc _ _ z0]
    · rintro G ⟨stG, xG, ls, hls, hlc, gD⟩
      walk_at "rd"
      intro M hM
      have nDM : D ≠ M := ne_of_none gD hM
      have st3 := stG.new (o := .lst []) hM
      have x3 := xG.new (o := .lst []) hM
      have gD3 : (upd G M (.lst [])) D = some (.lst (nts ls)) := (upd_ne nDM).trans gD
      have gM3 : (upd G M (.lst [])) M = some (.lst []) := upd_same
      have nMS := stG.neS hM
      have nML := stG.neL hM
      have hM0 := xG.free nMS hM
      have nDS := st1.neS hD
      generalize upd G M (.lst []) = G3 at st3 x3 gD3 gM3
      have ln := nts_len ls
      have gl : SqL K G3 D (nts ls) := sql gD3
      walk_at "rd"
      with_reducible refine c_rng1 ?_
      walk_at "rd"
      refine ⟨by omega, by omega, for_range (lo := 0) (n := (((nts ls).length : Int) - 1).toNat) (fun i σ G => ∃ (e3 : Option V) (us : List V) (ms : List (Nat × Wd)), σ = [some (.ref S), some (.int c), some (.int m), e3, some (.ref D), some (.ref M)] ∧ Strm S L ns G ∧ Ex S H G ∧ G D = some (.lst (nts ls)) ∧ G M = some (.lst us) ∧ MRs (Aw M (Aw S G)) us ms ∧ ms.length = i ∧ GoodP ls.length ms) ?_ ?_ ?_⟩
      · exact ⟨_, [], [], rfl, st3, x3, gD3, gM3, .nil, rfl, fun j s e => nomatch e⟩
      · rintro i σ G hi ⟨e3, us, ms, rfl, stG, xG, gD, gM, mr, hms, gp⟩
        have gl : SqL K G D (nts ls) := sql gD
        walk_at "rd"
        refine use_draw stG (by omega) (by omega) (fun d G2 d0 d1 x2 st2 => ?_)
        have gM2 := x2 _ _ nMS gM
        have gD2 := x2 _ _ nDS gD
        have mr2 := mr.same (Aw.same (Aw.ex x2))
        walk_at "rd"
        intro q hq
        walk_at "rd"
        have nqM : M ≠ q := ne_of_none gM2 hq
        have gM3 := (upd_ne (o := .lst [.str "and", .str "or", .str "less"]) nqM).trans gM2
        have gD3 := (upd_ne (o := .lst [.str "and", .str "or", .str "less"]) (ne_of_none gD2 hq)).trans gD2
        have gq : (upd G2 q (.lst [.str "and", .str "or", .str "less"])) q = some (.lst [.str "and", .str "or", .str "less"]) := upd_same
        have mr3 := mr2.same (Aw.same (Aw.same (same_new (o := .lst [.str "and", .str "or", .str "less"]) (Same.refl _) hq)))
        refine use_draw (st2.new hq) (by decide) (by decide) (fun d2 G4 e0 e1 x4 st4 => ?_)
        have gM4 := x4 _ _ nMS gM3
        have gD4 := x4 _ _ nDS gD3
        have gq4 := x4 _ _ (st2.neS hq) gq
        have mr4 := mr3.same (Aw.same (Aw.ex x4))
        obtain ⟨wd, hw⟩ := wd_at e0 e1
        refine r_ixL (sql gq4) hw ?_
        walk_at "rd"
        intro t ht
        have nMt : M ≠ t := ne_of_none gM4 ht
        have gM5 := (upd_ne (o := .lst [.int d, .str wd.s]) nMt).trans gM4
        have gD5 := (upd_ne (o := .lst [.int d, .str wd.s]) (ne_of_none gD4 ht)).trans gD4
        have gt : (upd G4 t (.lst [.int d, .str wd.s])) t = some (.lst [.int d, .str wd.s]) := upd_same
        have mr5 := mr4.same (Aw.same (Aw.same (same_new (o := .lst [.int d, .str wd.s]) (Same.refl _) ht)))
        have st5 := st4.new (o := .lst [.int d, .str wd.s]) ht
        have x5 := (((xG.trans x2).new hq).trans x4).new (o := .lst [.int d, .str wd.s]) ht
        have hmu := mr.len
        have gt2 : (Aw M (Aw S (upd G4 t (.lst [.int d, .str wd.s])))) t = some (.lst [.int ((d.toNat : Nat) : Int), .str wd.s]) := by
          rw [Int.toNat_of_nonneg d0]
          exact Aw.of (Aw.of gt (st4.neS ht)) nMt.symm
        generalize upd G4 t (.lst [.int d, .str wd.s]) = G5 at gM5 gD5 mr5 st5 x5 gt2
        have hsz : us.length < sizeLine := smallLt (by omega)
        walk_at "rd"
        exact ⟨_, us ++ [.ref t], ms ++ [(d.toNat, wd)], rfl, st5.upd nMS nML, x5.mut hM0, (upd_ne nDM).trans gD5, upd_same, (mr5.snoc gt2).same Aw.at, by simp [hms], gp.snoc (by omega)⟩
      · rintro σ G ⟨e3, us, ms, rfl, stG, xG, gD, gM, mr, hms, gp⟩
        walk_at "rd"
        intro p hp
        have npS := stG.neS hp
        refine k p ls ms _ (xG.new hp) (stG.new hp) ⟨D, M, us, Aw.of upd_same npS, Aw.of ((upd_ne (ne_of_none gD hp)).trans gD) nDS, Aw.of ((upd_ne (ne_of_none gM hp)).trans gM) nMS, (mr.same Aw.to).same (Aw.same (same_new (Same.refl _) hp))⟩ hlc (by omega) ⟨by omega, gp⟩
theorem ok_distinct_twig (T : Txt K mg) : FnOk P w K mg base CX0 2 T.a_distinct_twig T.d_distinct_twig ["_law_stream_here", "_law_count"] (spTwigD) := by
  refine T.F_distinct_twig.ok sc__law_distinct_twig (fun vs H Q E h => ?_) (fun cdv A outer s H vs Q E hr h => ⟨_, (pss_cons (ps_set (i := 2) sc__law_distinct_twig.nd rfl (.inl rfl) (pe_listRg rfl (by rfl) T.z_list (prg_1 (by rfl) T.z_range (pv 1))))
      (pss_cons (ps_set (i := 3) sc__law_distinct_twig.nd rfl (.inl rfl) (pe_lst pa_nil))
      (pss_cons (ps_for PassesOwn.never rfl (pi_range1 (by rfl) T.z_range (pa_cons (pe_op op_add pe_int (pe_call (ok_draw T) (hr.mono (by decide)) (by rfl) T.g_draw T.F_draw.kp T.b_draw .nil pass0 (pa_cons (pv 0) (pa_cons (pv 1) pa_nil)))) pa_nil)) (pg_name (i := 4) sc__law_distinct_twig.nd rfl (.inl rfl))
      (pss_one (ps_expr (pe_bm PySem.F.plainAttrs_list PySem.F.slot_list_append PySem.F.type_list_append mt_append (pv 3) (pa_cons (pe_bm PySem.F.plainAttrs_list PySem.F.slot_list_pop PySem.F.type_list_pop mt_popAt (pv 2) (pa_cons (pe_call (ok_draw T) (hr.mono (by decide)) (by rfl) T.g_draw T.F_draw.kp T.b_draw .nil pass0 (pa_cons (pv 0) (pa_cons (pe_callB call_len_seq (by rfl) T.z_len PySem.boot_len (pa_cons (pv 2) pa_nil)) pa_nil))) pa_nil)) pa_nil)))))
      (pss_cons (ps_set (i := 5) sc__law_distinct_twig.nd rfl (.inl rfl) (pe_lst pa_nil))
      (pss_cons (ps_for PassesOwn.never rfl (pi_range1 (by rfl) T.z_range (pa_cons (pe_op op_sub (pe_callB call_len_seq (by rfl) T.z_len PySem.boot_len (pa_cons (pv 3) pa_nil)) pe_int) pa_nil)) (pg_name (i := 4) sc__law_distinct_twig.nd rfl (.inl rfl))
      (pss_one (ps_expr (pe_bm PySem.F.plainAttrs_list PySem.F.slot_list_append PySem.F.type_list_append mt_append (pv 5) (pa_cons (pe_lst (pa_cons (pe_call (ok_draw T) (hr.mono (by decide)) (by rfl) T.g_draw T.F_draw.kp T.b_draw .nil pass0 (pa_cons (pv 0) (pa_cons (pe_op op_sub (pe_op op_sub (pe_callB call_len_seq (by rfl) T.z_len PySem.boot_len (pa_cons (pv 3) pa_nil)) pe_int) (pv 4)) pa_nil))) (pa_cons (pe_ix ix_list (pe_lst (pa_cons pe_str (pa_cons pe_str (pa_cons pe_str pa_nil)))) (pe_call (ok_draw T) (hr.mono (by decide)) (by rfl) T.g_draw T.F_draw.kp T.b_draw .nil pass0 (pa_cons (pv 0) (pa_cons pe_int pa_nil))) (fun _ _ => rfl)) pa_nil))) pa_nil)))))
      (pss_one (ps_ret (pe_lst (pa_cons (pv 3) (pa_cons (pv 5) pa_nil)))))))))), ?_⟩)
  · first | (obtain ⟨rfl, _⟩ := h; rfl) | (obtain ⟨_, rfl, _⟩ := h; rfl) | (obtain ⟨_, _, rfl, _⟩ := h; rfl) | (obtain ⟨_, _, _, rfl, _⟩ := h; rfl) | (obtain ⟨_, _, _, _, rfl, _⟩ := h; rfl) | (obtain ⟨_, _, _, _, _, rfl, _⟩ := h; rfl) | (obtain ⟨_, _, _, _, _, _, rfl, _⟩ := h; rfl) | (obtain ⟨_, _, _, _, _, _, _, rfl, _⟩ := h; rfl) | (obtain ⟨_, _, _, _, _, _, _, _, rfl, _⟩ := h; rfl) | (obtain ⟨_, _, _, _, _, _, _, _, _, rfl, _⟩ := h; rfl) | (obtain ⟨_, _, _, _, _, _, _, _, _, _, rfl, _⟩ := h; rfl) | (obtain ⟨_, _, _, _, _, _, _, _, _, _, _, rfl, _⟩ := h; rfl) | (obtain ⟨_, _, _, _, _, _, _, _, _, _, _, _, rfl, _⟩ := h; rfl) | (obtain ⟨_, _, _, _, _, _, _, _, _, _, _, _, _, rfl, _⟩ := h; rfl) | (obtain ⟨_, _, _, _, _, _, _, _, _, _, _, _, _, _, rfl, _⟩ := h; rfl)
  · obtain ⟨S, L, ns, c, rfl, st, c0, c1, k⟩ := h
    try dsimp only [cxOf, Cx.nox, Cx.wish]
    refine st_of (σ := [some _, some _, none, none, none, none]) rfl ?_
    walk_at "rd"
    refine c_lstRg (c_rg1 ?_)
    walk_at "rd"
    refine ⟨.of_le (by decide) (by omega) (by decide) (by omega), fun R hR => ?_⟩
    have eR : rgV 0 c = nts (List.range c.toNat) := by
      unfold rgV nts
      rw [Int.sub_zero]
      exact List.map_congr_left fun i _ => by rw [Int.zero_add]
    rw [eR]
    have nRS := st.neS hR
    have nRL := st.neL hR
    have gR0 : (upd H R (.lst (nts (List.range c.toNat)))) R = some (.lst (nts (List.range c.toNat))) := upd_same
    have st1 := st.new (o := .lst (nts (List.range c.toNat))) hR
    have x1 := (Ex.refl S H).new (o := .lst (nts (List.range c.toNat))) hR
    generalize upd H R (.lst (nts (List.range c.toNat))) = H1 at gR0 st1 x1
    walk_at "rd"
    intro D hD
    have nDS := st1.neS hD
    have nDL := st1.neL hD
    have nRD : R ≠ D := ne_of_none gR0 hD
    have hD0 := x1.free nDS hD
    have gR1 := (upd_ne (o := .lst []) nRD).trans gR0
    have gD1 : (upd H1 D (.lst [])) D = some (.lst []) := upd_same
    have st2 := st1.new (o := .lst []) hD
    have x2 := x1.new (o := .lst []) hD
    generalize upd H1 D (.lst []) = H2 at gR1 gD1 st2 x2
    walk_at "rd"
    with_reducible refine c_rng1 ?_
    walk_at "rd"
    refine use_draw st2 c0 (by omega) (fun r H3 r0 r1 x3 st3 => ?_)
    walk_at "rd"
    refine ⟨by omega, by omega, for_range (lo := 0) (n := (1 + r).toNat) (fun i σ G => ∃ (e4 : Option V) (ls rs : List Nat), σ = [some (.ref S), some (.int c), some (.ref R), some (.ref D), e4, none] ∧ Strm S L ns G ∧ Ex S H G ∧ G R = some (.lst (nts rs)) ∧ G D = some (.lst (nts ls)) ∧ ls.length = i ∧ rs.length + i = c.toNat ∧ (∀ l ∈ ls, (l : Int) < c) ∧ (∀ l ∈ rs, (l : Int) < c)) ?_ ?_ ?_⟩
    · exact ⟨_, [], List.range c.toNat, rfl, st3, x2.trans x3, x3 _ _ nRS gR1, x3 _ _ nDS gD1, rfl, by simp, fun l hl => (List.not_mem_nil hl).elim, fun l hl => by have := List.mem_range.mp hl; omega⟩
    · rintro i σ G hi ⟨e4, ls, rs, rfl, stG, xG, gR, gD, hls, hrs, hlc, hrc⟩
      have lr := nts_len rs
      have ll := nts_len ls
      have gr : SqL K G R (nts rs) := sql gR
      have gd : SqL K G D (nts ls) := sql gD
      walk_at "rd"
      refine use_draw stG (by omega) (by omega) (fun d G2 d0 d1 x4 st4 => ?_)
      have gR4 := x4 _ _ nRS gR
      have gD4 := x4 _ _ nDS gD
      have hdl : d.toNat < rs.length := by omega
      walk_at "rd"
      refine ⟨R, nts rs, d, d.toNat, .int (rs[d.toNat] : Nat), rfl, rfl, gR4, by omega, by omega, ?_, ?_, ?_⟩
      · exact seq_ix d0 d1
      · unfold nts
        rw [List.getElem?_map, List.getElem?_eq_getElem hdl]
        rfl
      have e5 : (nts rs).eraseIdx d.toNat = nts (rs.eraseIdx d.toNat) := by
        unfold nts
        rw [erase_map]
      rw [e5]
      have gD5 := (upd_ne (o := .lst (nts (rs.eraseIdx d.toNat))) nRD.symm).trans gD4
      have hsz : (nts ls).length < sizeLine := smallLt (by omega)
      walk_at "rd"
      refine ⟨_, ls ++ [rs[d.toNat]], rs.eraseIdx d.toNat, rfl, (st4.upd nRS nRL).upd nDS nDL, (((xG.trans x4).mut hR).mut hD0), (upd_ne nRD).trans upd_same, ?_, by simp [hls], ?_, fun l hl => ?_, fun l hl => hrc l (List.mem_of_mem_eraseIdx hl)⟩
      · rw [upd_same]
        unfold nts
        rw [List.map_append]
        rfl
      · rw [List.length_eraseIdx_of_lt hdl]
        omega
      · rcases List.mem_append.mp hl with hl | hl
        · exact hlc l hl
        · rw [List.mem_singleton.mp hl]
          exact hrc _ (List.getElem_mem hdl)
    · rintro σ G ⟨e4, ls, rs, rfl, stG, xG, gR, gD, hls, hrs, hlc, hrc⟩
      walk_at "rd"
      intro M hM
      have nDM : D ≠ M := ne_of_none gD hM
      have st3 := stG.new (o := .lst []) hM
      have x3 := xG.new (o := .lst []) hM
      have gD3 : (upd G M (.lst [])) D = some (.lst (nts ls)) := (upd_ne nDM).trans gD
      have gM3 : (upd G M (.lst [])) M = some (.lst []) := upd_same
      have nMS := stG.neS hM
      have nML := stG.neL hM
      have hM0 := xG.free nMS hM
      have nDS := st1.neS hD
      generalize upd G M (.lst []) = G3 at st3 x3 gD3 gM3
      have ln := nts_len ls
      have gl : SqL K G3 D (nts ls) := sql gD3
      walk_at "rd"
      with_reducible refine c_rng1 ?_
      walk_at "rd"
      refine ⟨by omega, by omega, for_range (lo := 0) (n := (((nts ls).length : Int) - 1).toNat) (fun i σ G => ∃ (e3 : Option V) (us : List V) (ms : List (Nat × Wd)), σ = [some (.ref S), some (.int c), some (.ref R), some (.ref D), e3, some (.ref M)] ∧ Strm S L ns G ∧ Ex S H G ∧ G D = some (.lst (nts ls)) ∧ G M = some (.lst us) ∧ MRs (Aw M (Aw S G)) us ms ∧ ms.length = i ∧ GoodP ls.length ms) ?_ ?_ ?_⟩
      · exact ⟨_, [], [], rfl, st3, x3, gD3, gM3, .nil, rfl, fun j s e => nomatch e⟩
      · rintro i σ G hi ⟨e3, us, ms, rfl, stG, xG, gD, gM, mr, hms, gp⟩
        have gl : SqL K G D (nts ls) := sql gD
        walk_at "rd"
        refine use_draw stG (by omega) (by omega) (fun d G2 d0 d1 x2 st2 => ?_)
        have gM2 := x2 _ _ nMS gM
        have gD2 := x2 _ _ nDS gD
        have mr2 := mr.same (Aw.same (Aw.ex x2))
        walk_at "rd"
        intro q hq
        walk_at "rd"
        have nqM : M ≠ q := ne_of_none gM2 hq
        have gM3 := (upd_ne (o := .lst [.str "and", .str "or", .str "less"]) nqM).trans gM2
        have gD3 := (upd_ne (o := .lst [.str "and", .str "or", .str "less"]) (ne_of_none gD2 hq)).trans gD2
        have gq : (upd G2 q (.lst [.str "and", .str "or", .str "less"])) q = some (.lst [.str "and", .str "or", .str "less"]) := upd_same
        have mr3 := mr2.same (Aw.same (Aw.same (same_new (o := .lst [.str "and", .str "or", .str "less"]) (Same.refl _) hq)))
        refine use_draw (st2.new hq) (by decide) (by decide) (fun d2 G4 e0 e1 x4 st4 => ?_)
        have gM4 := x4 _ _ nMS gM3
        have gD4 := x4 _ _ nDS gD3
        have gq4 := x4 _ _ (st2.neS hq) gq
        have mr4 := mr3.same (Aw.same (Aw.ex x4))
        obtain ⟨wd, hw⟩ := wd_at e0 e1
        refine r_ixL (sql gq4) hw ?_
        walk_at "rd"
        intro t ht
        have nMt : M ≠ t := ne_of_none gM4 ht
        have gM5 := (upd_ne (o := .lst [.int d, .str wd.s]) nMt).trans gM4
        have gD5 := (upd_ne (o := .lst [.int d, .str wd.s]) (ne_of_none gD4 ht)).trans gD4
        have gt : (upd G4 t (.lst [.int d, .str wd.s])) t = some (.lst [.int d, .str wd.s]) := upd_same
        have mr5 := mr4.same (Aw.same (Aw.same (same_new (o := .lst [.int d, .str wd.s]) (Same.refl _) ht)))
        have st5 := st4.new (o := .lst [.int d, .str wd.s]) ht
        have x5 := (((xG.trans x2).new hq).trans x4).new (o := .lst [.int d, .str wd.s]) ht
        have hmu := mr.len
        have gt2 : (Aw M (Aw S (upd G4 t (.lst [.int d, .str wd.s])))) t = some (.lst [.int ((d.toNat : Nat) : Int), .str wd.s]) := by
          rw [Int.toNat_of_nonneg d0]
          exact Aw.of (Aw.of gt (st4.neS ht)) nMt.symm
        generalize upd G4 t (.lst [.int d, .str wd.s]) = G5 at gM5 gD5 mr5 st5 x5 gt2
        have hsz : us.length < sizeLine := smallLt (by omega)
        walk_at "rd"
        exact ⟨_, us ++ [.ref t], ms ++ [(d.toNat, wd)], rfl, st5.upd nMS nML, x5.mut hM0, (upd_ne nDM).trans gD5, upd_same, (mr5.snoc gt2).same Aw.at, by simp [hms], gp.snoc (by omega)⟩
      · rintro σ G ⟨e3, us, ms, rfl, stG, xG, gD, gM, mr, hms, gp⟩
        walk_at "rd"
        intro p hp
        have npS := stG.neS hp
        refine k p ls ms _ (xG.new hp) (stG.new hp) ⟨D, M, us, Aw.of upd_same npS, Aw.of ((upd_ne (ne_of_none gD hp)).trans gD) nDS, Aw.of ((upd_ne (ne_of_none gM hp)).trans gM) nMS, (mr.same Aw.to).same (Aw.same (same_new (Same.refl _) hp))⟩ hlc (by omega) ⟨by omega, gp⟩
end

def spGrown (K : PySem.W.Frag) : Sp := fun vs H Q _ => ∃ (p : Addr) (ls : List Nat) (ms : List (Nat × Wd)), vs = [.ref p] ∧ TwR H p ls ms ∧ GoodM ls.length ms ∧ ls.length ≤ 20 ∧ ∀ v t H', Same H H' → JR K H' v t → mrgs JT.nd (ls.map .leaf) ms = [t] → Q v H'
def spJoinMarks : Sp := fun vs H Q _ => ∃ (w : Wd) (a b : Int), vs = [.str w.s, .int a, .int b] ∧ Q (.int (jM w a b)) H
def spTreeValue (K : PySem.W.Frag) : Sp := fun vs H Q _ => ∃ (p g : Addr) (ls : List Nat) (ms : List (Nat × Wd)) (qs : List Int), vs = [.ref p, .ref g] ∧ TwR H p ls ms ∧ GoodM ls.length ms ∧ ls.length ≤ 20 ∧ SqL K H g (qs.map V.int) ∧ (∀ i ∈ ls, i < qs.length) ∧ ∀ z H', Same H H' → mrgs jM (ls.map fun i => qs.getD i 0) ms = [z] → Q (.int z) H'
def agL (bs : List Bool) (ms : List Int) (n : Nat) : Bool := (List.range n).all fun k => ag1 (bs.getD k false) (ms.getD k 0)
def spAgree (K : PySem.W.Frag) : Sp := fun vs H Q _ => ∃ (b m : Addr) (bs : List Bool) (ms : List Int), vs = [.ref b, .ref m] ∧ SqL K H b (bs.map V.bl) ∧ SqL K H m (ms.map V.int) ∧ bs.length = ms.length ∧ ms.length ≤ 1000 ∧ Q (.bl (agL bs ms ms.length)) H
theorem atP {α : Type} {us r : List α} {x : α} {j : Int} (h : j = (us.length : Int)) : atI (us ++ x :: r) j = some x := by
  subst h
  exact atI_nat (by simp)
theorem atP1 {α : Type} {us r : List α} {x y : α} {j : Int} (h : j = (us.length : Int) + 1) : atI (us ++ x :: y :: r) j = some y := by
  subst h
  exact atI_nat (j := us.length + 1) (by simp)
theorem cut_two {us r : List V} {x y : V} {j : Int} (h : j = (us.length : Int) + 2) : cutV (us ++ x :: y :: r) (some j) none = r := by
  have e : us ++ x :: y :: r = (us ++ [x, y]) ++ r := by simp
  rw [e]
  exact cut_from (by simp [h])
section
variable {P : Program} {w : World} {K : PySem.W.Frag} {mg : Str → Option Value} {base : Heap}
theorem ok_grown (T : Txt K mg) : FnOk P w K mg base CX0 1 T.a_grown T.d_grown ["_law_twig_here"] (spGrown K) := by
  refine T.F_grown.ok sc__law_grown (fun vs H Q E h => ?_) (fun cdv A outer s H vs Q E hr h => ⟨_, (pss_cons (ps_set (i := 1) sc__law_grown.nd rfl (.inl rfl) (pe_callTy call_list_of (by rfl) T.z_list (by decide +kernel) (pa_cons (pe_ix ix_list (pv 0) pe_int (fun _ _ => rfl)) pa_nil)))
      (pss_cons (ps_for PassesOwn.never rfl (pi_list (pe_ix ix_list (pv 0) pe_int (fun _ _ => rfl))) (pg_name (i := 2) sc__law_grown.nd rfl (.inl rfl))
      (pss_cons (ps_set (i := 3) sc__law_grown.nd rfl (.inl rfl) (pe_ix ix_list (pv 2) pe_int (fun _ _ => rfl)))
      (pss_one (ps_set (i := 1) sc__law_grown.nd rfl (.inl rfl) (pe_op op_cat (pe_op op_cat (pe_slice sl_list (pv 1) po_none (po_some (pv 3))) (pe_lst (pa_cons (pe_tup (pa_cons (pe_ix ix_list (pv 2) pe_int (fun _ _ => rfl)) (pa_cons (pe_ix ix_list (pv 1) (pv 3) (fun _ _ => rfl)) (pa_cons (pe_ix ix_list (pv 1) (pe_op op_add (pv 3) pe_int) (fun _ _ => rfl)) pa_nil)))) pa_nil))) (pe_slice sl_list (pv 1) (po_some (pe_op op_add (pv 3) pe_int)) po_none))))))
      (pss_one (ps_ret (pe_ix ix_list (pv 1) pe_int (fun _ _ => rfl)))))), ?_⟩)
  · first | (obtain ⟨rfl, _⟩ := h; rfl) | (obtain ⟨_, rfl, _⟩ := h; rfl) | (obtain ⟨_, _, rfl, _⟩ := h; rfl) | (obtain ⟨_, _, _, rfl, _⟩ := h; rfl) | (obtain ⟨_, _, _, _, rfl, _⟩ := h; rfl) | (obtain ⟨_, _, _, _, _, rfl, _⟩ := h; rfl) | (obtain ⟨_, _, _, _, _, _, rfl, _⟩ := h; rfl) | (obtain ⟨_, _, _, _, _, _, _, rfl, _⟩ := h; rfl) | (obtain ⟨_, _, _, _, _, _, _, _, rfl, _⟩ := h; rfl) | (obtain ⟨_, _, _, _, _, _, _, _, _, rfl, _⟩ := h; rfl) | (obtain ⟨_, _, _, _, _, _, _, _, _, _, rfl, _⟩ := h; rfl) | (obtain ⟨_, _, _, _, _, _, _, _, _, _, _, rfl, _⟩ := h; rfl) | (obtain ⟨_, _, _, _, _, _, _, _, _, _, _, _, rfl, _⟩ := h; rfl) | (obtain ⟨_, _, _, _, _, _, _, _, _, _, _, _, _, rfl, _⟩ := h; rfl) | (obtain ⟨_, _, _, _, _, _, _, _, _, _, _, _, _, _, rfl, _⟩ := h; rfl)
  · obtain ⟨p, ls, ms, rfl, tw, gm, hl, kk⟩ := h
    try dsimp only [cxOf, Cx.nox, Cx.wish]
    refine st_of (σ := [some _, none, none, none]) rfl ?_
    obtain ⟨lv, mg, us, hp, hlv, hmg, mr⟩ := tw.ex
    walk_at "rd"
    intro l hl0
    have s0 : Same H (upd H l (.lst (nts ls))) := same_new (Same.refl _) hl0
    have gl0 : (upd H l (.lst (nts ls))) l = some (.lst (nts ls)) := upd_same
    generalize upd H l (.lst (nts ls)) = H1 at s0 gl0 ⊢
    have hp1 := s0 _ _ hp
    have hmg1 := s0 _ _ hmg
    have lm : (ls.map JT.leaf).length = ls.length := List.length_map ..
    have hML := mr.len
    walk_at "rd"
    with_reducible refine c_forList ?_
    walk_at "rd"
    refine ⟨⟨_, sql hmg1⟩, for_list (xs := us) (fun i σ G => ∃ (q : Addr) (vs : List V) (e2 e3 : Option V), σ = [some (.ref p), some (.ref q), e2, e3] ∧ Same H G ∧ G q = some (.lst vs) ∧ JRs K G vs (mrgs JT.nd (ls.map .leaf) (ms.take i))) ?_ ?_ ?_ ?_⟩
    · exact ⟨l, nts ls, _, _, rfl, s0, gl0, JRs.leaves ls⟩
    · rintro i σ G _ ⟨q, vs, e2, e3, rfl, sG, _⟩
      exact sql (sG _ _ hmg)
    · rintro i x σ G hi ⟨q, vs, e2, e3, rfl, sG, gq, jr⟩
      obtain ⟨a, k, w, rfl, hms, ha⟩ := mr.get hi
      have hii : i < ms.length := (List.getElem?_eq_some_iff.mp hms).1
      have hlen := mrgs_len (f := JT.nd) (xs := ls.map .leaf) (ms := ms) (by rw [lm]; exact gm.at_) i (Nat.le_of_lt hii)
      have hk := gm.at_ i _ hms
      rw [mrgs_succ hms]
      dsimp only at hk
      generalize mrgs JT.nd (ls.map .leaf) (ms.take i) = ts at jr hlen ⊢
      obtain ⟨tu, tx, ty, tr, rfl, rfl⟩ := split2 (xs := ts) (k := k) (by omega)
      rw [mrg1_eq]
      obtain ⟨va, vb, rfl, ja, jb⟩ := jr.split
      obtain ⟨vx, vy, vr, rfl, jx, jy, jr⟩ := jb.two
      case' _ =>
        case' _ =>
          have hva := ja.len
          simp at hlen
          have hvr := jr.len
          have ga := sG _ _ ha
          walk_at "rd"
          intro q1 h1
          rw [cut_to (xs := va) (ys := vx :: vy :: vr) (r := (tu.length : Int)) (by omega)]
          have s1 := same_new (o := .lst va) (Same.refl G) h1
          have g1 : (upd G q1 (.lst va)) q1 = some (.lst va) := upd_same
          generalize upd G q1 (.lst va) = G1 at s1 g1
          have ga1 := s1 _ _ ga
          have gq1 := s1 _ _ gq
          walk_at "rd"
          refine r_ixL (sql gq1) (atP (by omega)) ?_
          walk_at "rd"
          refine r_ixL (sql gq1) (atP1 (by omega)) ?_
          walk_at "rd"
          intro t ht
          have s2 := same_new (o := .tup [.str w.s, vx, vy]) (Same.refl G1) ht
          have g2 : (upd G1 t (.tup [.str w.s, vx, vy])) t = some (.tup [.str w.s, vx, vy]) := upd_same
          generalize upd G1 t (.tup [.str w.s, vx, vy]) = G2 at s2 g2
          walk_at "rd"
          intro q3 h3
          have s3 := same_new (o := .lst [.ref t]) (Same.refl G2) h3
          have g3 : (upd G2 q3 (.lst [.ref t])) q3 = some (.lst [.ref t]) := upd_same
          generalize upd G2 q3 (.lst [.ref t]) = G3 at s3 g3
          refine r_cat (s3 _ _ (s2 _ _ g1)) g3 (small (by simp; omega)) (fun q4 h4 => ?_)
          have s4 := same_new (o := .lst (va ++ [.ref t])) (Same.refl G3) h4
          have g4 : (upd G3 q4 (.lst (va ++ [.ref t]))) q4 = some (.lst (va ++ [.ref t])) := upd_same
          generalize upd G3 q4 (.lst (va ++ [.ref t])) = G4 at s4 g4
          have s14 := (s2.trans s3).trans s4
          have gq4 := s14 _ _ gq1
          walk_at "rd"
          intro q5 h5
          rw [cut_two (us := va) (by omega)]
          have s5 := same_new (o := .lst vr) (Same.refl G4) h5
          have g5 : (upd G4 q5 (.lst vr)) q5 = some (.lst vr) := upd_same
          generalize upd G4 q5 (.lst vr) = G5 at s5 g5
          refine r_cat (s5 _ _ g4) g5 (small (by simp; omega)) (fun q6 h6 => ?_)
          have s6 := same_new (o := .lst (va ++ [.ref t] ++ vr)) (Same.refl G5) h6
          have g6 : (upd G5 q6 (.lst (va ++ [.ref t] ++ vr))) q6 = some (.lst (va ++ [.ref t] ++ vr)) := upd_same
          generalize upd G5 q6 (.lst (va ++ [.ref t] ++ vr)) = G6 at s6 g6
          have s26 := ((s3.trans s4).trans s5).trans s6
          have s06 := (s1.trans s2).trans s26
          walk_at "rd"
          refine ⟨q6, _, _, _, rfl, sG.trans s06, g6, ?_⟩
          rw [List.append_assoc]
          exact (ja.same s06).app (.cons (.nd (sqt (s26 _ _ g2)) (jx.same s06) (jy.same s06)) (jr.same s06))
    · rintro σ G ⟨q, vs, e2, e3, rfl, sG, gq, jr⟩
      rw [hML, List.take_length] at jr
      obtain ⟨t, ht⟩ := mrgs_one (f := JT.nd) (xs := ls.map .leaf) (ms := ms) (by rw [lm]; exact gm)
      rw [ht] at jr
      cases jr with
      | cons j jn =>
        cases jn
        have gq0 : SqL K G q _ := sql gq
        walk_at "rd"
        exact kk _ t G sG j ht
theorem ok_join_marks (T : Txt K mg) : FnOk P w K mg base CX0 1 T.a_join_marks T.d_join_marks ["_law_word", "_law_one", "_law_two"] (spJoinMarks) := by
  refine T.F_join_marks.ok sc__law_join_marks (fun vs H Q E h => ?_) (fun cdv A outer s H vs Q E hr h => ⟨_, (pss_cons (ps_if (pt_cmpR op_eq (pv 0) pe_str (nomark _))
      (pss_one (ps_ret (pe_callB (call_min2 rfl) (by rfl) T.z_min (by decide +kernel) (pa_cons (pv 1) (pa_cons (pv 2) pa_nil)))))
      pss_nil)
      (pss_cons (ps_if (pt_cmpR op_eq (pv 0) pe_str (nomark _))
      (pss_one (ps_ret (pe_callB (call_max2 rfl) (by rfl) T.z_max (by decide +kernel) (pa_cons (pv 1) (pa_cons (pv 2) pa_nil)))))
      pss_nil)
      (pss_one (ps_ret (pe_callB (call_min2 rfl) (by rfl) T.z_min (by decide +kernel) (pa_cons (pv 1) (pa_cons (pe_op op_sub pe_int (pv 2)) pa_nil))))))), ?_⟩)
  · first | (obtain ⟨rfl, _⟩ := h; rfl) | (obtain ⟨_, rfl, _⟩ := h; rfl) | (obtain ⟨_, _, rfl, _⟩ := h; rfl) | (obtain ⟨_, _, _, rfl, _⟩ := h; rfl) | (obtain ⟨_, _, _, _, rfl, _⟩ := h; rfl) | (obtain ⟨_, _, _, _, _, rfl, _⟩ := h; rfl) | (obtain ⟨_, _, _, _, _, _, rfl, _⟩ := h; rfl) | (obtain ⟨_, _, _, _, _, _, _, rfl, _⟩ := h; rfl) | (obtain ⟨_, _, _, _, _, _, _, _, rfl, _⟩ := h; rfl) | (obtain ⟨_, _, _, _, _, _, _, _, _, rfl, _⟩ := h; rfl) | (obtain ⟨_, _, _, _, _, _, _, _, _, _, rfl, _⟩ := h; rfl) | (obtain ⟨_, _, _, _, _, _, _, _, _, _, _, rfl, _⟩ := h; rfl) | (obtain ⟨_, _, _, _, _, _, _, _, _, _, _, _, rfl, _⟩ := h; rfl) | (obtain ⟨_, _, _, _, _, _, _, _, _, _, _, _, _, rfl, _⟩ := h; rfl) | (obtain ⟨_, _, _, _, _, _, _, _, _, _, _, _, _, _, rfl, _⟩ := h; rfl)
  · obtain ⟨w, a, b, rfl, k⟩ := h
    try dsimp only [cxOf, Cx.nox, Cx.wish]
    refine st_of (σ := [some _, some _, some _]) rfl ?_
    cases w <;> dsimp only [Wd.s] at * <;> walk_at "wd" <;> exact k
theorem ok_tree_value (T : Txt K mg) : FnOk P w K mg base CX0 2 T.a_tree_value T.d_tree_value ["_law_twig_here", "_law_values"] (spTreeValue K) := by
  refine T.F_tree_value.ok sc__law_tree_value (fun vs H Q E h => ?_) (fun cdv A outer s H vs Q E hr h => ⟨_, (pss_cons (ps_setLc (i := 2) (own := [("_law_k", 5)]) (g := gName 5) (tt := tYes) rfl sc__law_tree_value.nd rfl rfl (sw_true rfl rfl rfl (by decide +kernel)) (pi_list (pe_ix ix_list (pv 0) pe_int (fun _ _ => rfl))) (blkOk_by (own := [("_law_k", 5)]) (N := N__law_tree_value) (sc := defScope s__law_tree_value) (by decide +kernel)) (fun _ _ _ _ _ => pg_name (i := 5) sc__law_tree_value.nd rfl (Or.inl rfl)) (fun _ _ _ _ _ => pts_nil) (fun _ _ _ _ _ => (pe_ix ix_listB (pv 1) (pv 5) (fun _ _ => rfl))))
      (pss_cons (ps_for PassesOwn.never rfl (pi_list (pe_ix ix_list (pv 0) pe_int (fun _ _ => rfl))) (pg_name (i := 3) sc__law_tree_value.nd rfl (.inl rfl))
      (pss_cons (ps_set (i := 4) sc__law_tree_value.nd rfl (.inl rfl) (pe_ix ix_list (pv 3) pe_int (fun _ _ => rfl)))
      (pss_one (ps_set (i := 2) sc__law_tree_value.nd rfl (.inl rfl) (pe_op op_cat (pe_op op_cat (pe_slice sl_list (pv 2) po_none (po_some (pv 4))) (pe_lst (pa_cons (pe_call (ok_join_marks T) (hr.mono (by decide)) (by rfl) T.g_join_marks T.F_join_marks.kp T.b_join_marks .nil pass0 (pa_cons (pe_ix ix_list (pv 3) pe_int (fun _ _ => rfl)) (pa_cons (pe_ix ix_list (pv 2) (pv 4) (fun _ _ => rfl)) (pa_cons (pe_ix ix_list (pv 2) (pe_op op_add (pv 4) pe_int) (fun _ _ => rfl)) pa_nil)))) pa_nil))) (pe_slice sl_list (pv 2) (po_some (pe_op op_add (pv 4) pe_int)) po_none))))))
      (pss_one (ps_ret (pe_ix ix_list (pv 2) pe_int (fun _ _ => rfl)))))), ?_⟩)
  · first | (obtain ⟨rfl, _⟩ := h; rfl) | (obtain ⟨_, rfl, _⟩ := h; rfl) | (obtain ⟨_, _, rfl, _⟩ := h; rfl) | (obtain ⟨_, _, _, rfl, _⟩ := h; rfl) | (obtain ⟨_, _, _, _, rfl, _⟩ := h; rfl) | (obtain ⟨_, _, _, _, _, rfl, _⟩ := h; rfl) | (obtain ⟨_, _, _, _, _, _, rfl, _⟩ := h; rfl) | (obtain ⟨_, _, _, _, _, _, _, rfl, _⟩ := h; rfl) | (obtain ⟨_, _, _, _, _, _, _, _, rfl, _⟩ := h; rfl) | (obtain ⟨_, _, _, _, _, _, _, _, _, rfl, _⟩ := h; rfl) | (obtain ⟨_, _, _, _, _, _, _, _, _, _, rfl, _⟩ := h; rfl) | (obtain ⟨_, _, _, _, _, _, _, _, _, _, _, rfl, _⟩ := h; rfl) | (obtain ⟨_, _, _, _, _, _, _, _, _, _, _, _, rfl, _⟩ := h; rfl) | (obtain ⟨_, _, _, _, _, _, _, _, _, _, _, _, _, rfl, _⟩ := h; rfl) | (obtain ⟨_, _, _, _, _, _, _, _, _, _, _, _, _, _, rfl, _⟩ := h; rfl)
  · obtain ⟨p, g, ls, ms, qs, rfl, tw, gm, hl, hg, hq, kk⟩ := h
    try dsimp only [cxOf, Cx.nox, Cx.wish]
    refine st_of (σ := [some _, some _, none, none, none, none]) rfl ?_
    obtain ⟨lv, mg, us, hp, hlv, hmg, mr⟩ := tw.ex
    have lq : (qs.map V.int).length = qs.length := List.length_map ..
    walk_at "rd"
    with_reducible refine c_lcL ?_
    walk_at "rd"
    refine ⟨⟨_, sql hlv⟩, fun D hD => lc_list (xs := nts ls) (fun i G => Same H G ∧ G D = some (.lst (((ls.take i).map fun j => qs.getD j 0).map V.int))) ?_ ?_ ?_ ?_⟩
    · exact ⟨same_new (Same.refl _) hD, upd_same⟩
    · rintro i G _ ⟨sG, _⟩
      exact sql (sG _ _ hlv)
    · rintro i y G hi ⟨sG, gD⟩
      unfold nts at hi
      rw [List.getElem?_map] at hi
      obtain ⟨j, hj, rfl⟩ := Option.map_eq_some_iff.mp hi
      obtain ⟨hi1, hj1⟩ := List.getElem?_eq_some_iff.mp hj
      have hjq := hq j (by rw [← hj1]; exact List.getElem_mem hi1)
      walk_at "rd"
      refine ⟨rfl, ?_⟩
      walk_at "rd"
      refine r_ixL (seq' hg sG) (atI_nat (v := .int (qs.getD j 0)) ?_) ?_
      · rw [List.getElem?_map, List.getD_eq_getElem?_getD, List.getElem?_eq_getElem hjq] <;> rfl
      refine ⟨_, gD, smallLt (by simp; omega), same_mut sG hD, ?_⟩
      rw [upd_same, List.take_succ_eq_append_getElem hi1, hj1, List.map_append, List.map_append]
      rfl
    · rintro G0 ⟨s0, gD⟩
      rw [nts_len, List.take_length] at gD
      have hp1 := s0 _ _ hp
      have hmg1 := s0 _ _ hmg
      have hML := mr.len
      have lm : (ls.map fun j => qs.getD j 0).length = ls.length := List.length_map ..
      walk_at "rd"
      with_reducible refine c_forList ?_
      walk_at "rd"
      refine ⟨⟨_, sql hmg1⟩, for_list (xs := us) (fun i σ G => ∃ (q : Addr) (e3 e4 : Option V), σ = [some (.ref p), some (.ref g), some (.ref q), e3, e4, none] ∧ Same H G ∧ G q = some (.lst ((mrgs jM (ls.map fun j => qs.getD j 0) (ms.take i)).map V.int))) ?_ ?_ ?_ ?_⟩
      · exact ⟨D, _, _, rfl, s0, gD⟩
      · rintro i σ G _ ⟨q, e3, e4, rfl, sG, _⟩
        exact sql (sG _ _ hmg)
      · rintro i x σ G hi ⟨q, e3, e4, rfl, sG, gq⟩
        obtain ⟨a, k, w, rfl, hms, ha⟩ := mr.get hi
        have hii : i < ms.length := (List.getElem?_eq_some_iff.mp hms).1
        have hlen := mrgs_len (f := jM) (xs := ls.map fun j => qs.getD j 0) (ms := ms) (by rw [lm]; exact gm.at_) i (Nat.le_of_lt hii)
        have hk := gm.at_ i _ hms
        rw [mrgs_succ hms]
        dsimp only at hk
        generalize mrgs jM (ls.map fun j => qs.getD j 0) (ms.take i) = ts at gq hlen ⊢
        obtain ⟨tu, tx, ty, tr, rfl, rfl⟩ := split2 (xs := ts) (k := k) (by omega)
        rw [mrg1_eq]
        rw [List.map_append, List.map_cons, List.map_cons] at gq
        rw [List.map_append, List.map_cons]
        have hva : (tu.map V.int).length = tu.length := List.length_map ..
        have hvr : (tr.map V.int).length = tr.length := List.length_map ..
        simp at hlen
        have ga := sG _ _ ha
        generalize tu.map V.int = va at gq hva ⊢
        generalize tr.map V.int = vr at gq hvr ⊢
        walk_at "rd"
        intro q1 h1
        rw [cut_to (xs := va) (ys := .int tx :: .int ty :: vr) (r := (tu.length : Int)) (by omega)]
        have s1 := same_new (o := .lst va) (Same.refl G) h1
        have g1 : (upd G q1 (.lst va)) q1 = some (.lst va) := upd_same
        generalize upd G q1 (.lst va) = G1 at s1 g1
        have ga1 := s1 _ _ ga
        have gq1 := s1 _ _ gq
        walk_at "rd"
        refine r_ixL (sql gq1) (atP (by omega)) ?_
        walk_at "rd"
        refine r_ixL (sql gq1) (atP1 (by omega)) ?_
        walk_at "rd"
        refine ⟨w, tx, ty, rfl, ?_⟩
        walk_at "rd"
        intro q3 h3
        have s3 := same_new (o := .lst [.int (jM w tx ty)]) (Same.refl G1) h3
        have g3 : (upd G1 q3 (.lst [.int (jM w tx ty)])) q3 = some (.lst [.int (jM w tx ty)]) := upd_same
        generalize upd G1 q3 (.lst [.int (jM w tx ty)]) = G3 at s3 g3
        refine r_cat (s3 _ _ g1) g3 (small (by simp; omega)) (fun q4 h4 => ?_)
        have s4 := same_new (o := .lst (va ++ [.int (jM w tx ty)])) (Same.refl G3) h4
        have g4 : (upd G3 q4 (.lst (va ++ [.int (jM w tx ty)]))) q4 = some (.lst (va ++ [.int (jM w tx ty)])) := upd_same
        generalize upd G3 q4 (.lst (va ++ [.int (jM w tx ty)])) = G4 at s4 g4
        have gq4 := s4 _ _ (s3 _ _ gq1)
        walk_at "rd"
        intro q5 h5
        rw [cut_two (us := va) (by omega)]
        have s5 := same_new (o := .lst vr) (Same.refl G4) h5
        have g5 : (upd G4 q5 (.lst vr)) q5 = some (.lst vr) := upd_same
        generalize upd G4 q5 (.lst vr) = G5 at s5 g5
        refine r_cat (s5 _ _ g4) g5 (small (by simp; omega)) (fun q6 h6 => ?_)
        walk_at "rd"
        refine ⟨q6, _, _, rfl, same_new ((((sG.trans s1).trans s3).trans s4).trans s5) h6, ?_⟩
        rw [upd_same, List.append_assoc]
        rfl
      · rintro σ G ⟨q, e3, e4, rfl, sG, gq⟩
        rw [hML, List.take_length] at gq
        obtain ⟨z, hz⟩ := mrgs_one (f := jM) (xs := ls.map fun j => qs.getD j 0) (ms := ms) (by rw [lm]; exact gm)
        rw [hz] at gq
        have gq0 : SqL K G q [.int z] := sql gq
        walk_at "rd"
        exact kk z G sG hz
theorem ok_agree (T : Txt K mg) : FnOk P w K mg base CX0 1 T.a_agree T.d_agree ["_law_vector", "_law_marks"] (spAgree K) := by
  refine T.F_agree.ok sc__law_agree (fun vs H Q E h => ?_) (fun cdv A outer s H vs Q E hr h => ⟨_, (pss_cons (ps_for PassesOwn.never rfl (pi_range1 (by rfl) T.z_range (pa_cons (pe_callB call_len_seq (by rfl) T.z_len PySem.boot_len (pa_cons (pv 1) pa_nil)) pa_nil)) (pg_name (i := 2) sc__law_agree.nd rfl (.inl rfl))
      (pss_one (ps_if (PW.pt (pw_and (pt_cmpR op_ne (pe_ix ix_list (pv 1) (pv 2) (fun _ _ => rfl)) pe_int (nomark _)) (pw_and1 (pt_cmpR op_ne (pe_ix ix_list (pv 0) (pv 2) (fun _ _ => rfl)) (pe_cmpR op_eq (pe_ix ix_list (pv 1) (pv 2) (fun _ _ => rfl)) pe_int (nomark _)) (nomark _)))))
      (pss_one (ps_ret pe_bl))
      pss_nil)))
      (pss_one (ps_ret pe_bl))), ?_⟩)
  · first | (obtain ⟨rfl, _⟩ := h; rfl) | (obtain ⟨_, rfl, _⟩ := h; rfl) | (obtain ⟨_, _, rfl, _⟩ := h; rfl) | (obtain ⟨_, _, _, rfl, _⟩ := h; rfl) | (obtain ⟨_, _, _, _, rfl, _⟩ := h; rfl) | (obtain ⟨_, _, _, _, _, rfl, _⟩ := h; rfl) | (obtain ⟨_, _, _, _, _, _, rfl, _⟩ := h; rfl) | (obtain ⟨_, _, _, _, _, _, _, rfl, _⟩ := h; rfl) | (obtain ⟨_, _, _, _, _, _, _, _, rfl, _⟩ := h; rfl) | (obtain ⟨_, _, _, _, _, _, _, _, _, rfl, _⟩ := h; rfl) | (obtain ⟨_, _, _, _, _, _, _, _, _, _, rfl, _⟩ := h; rfl) | (obtain ⟨_, _, _, _, _, _, _, _, _, _, _, rfl, _⟩ := h; rfl) | (obtain ⟨_, _, _, _, _, _, _, _, _, _, _, _, rfl, _⟩ := h; rfl) | (obtain ⟨_, _, _, _, _, _, _, _, _, _, _, _, _, rfl, _⟩ := h; rfl) | (obtain ⟨_, _, _, _, _, _, _, _, _, _, _, _, _, _, rfl, _⟩ := h; rfl)
  · obtain ⟨b, m, bs, ms, rfl, hb, hm, hlen, hl, k⟩ := h
    try dsimp only [cxOf, Cx.nox, Cx.wish]
    refine st_of (σ := [some _, some _, none]) rfl ?_
    have lb : (bs.map V.bl).length = bs.length := List.length_map ..
    have lm : (ms.map V.int).length = ms.length := List.length_map ..
    walk_at "rd"
    with_reducible refine c_rng1 ?_
    walk_at "rd"
    rw [lm]
    refine ⟨by omega, by omega, for_range (lo := 0) (n := ms.length) (fun i σ G => G = H ∧ (∃ e2, σ = [some (.ref b), some (.ref m), e2]) ∧ agL bs ms i = true) ?_ ?_ ?_⟩
    · exact ⟨rfl, ⟨_, rfl⟩, rfl⟩
    · rintro i σ G hi ⟨rfl, ⟨e2, rfl⟩, al⟩
      have am : atI (ms.map V.int) (0 + (i : Int)) = some (.int (ms.getD i 0)) := by
        rw [Int.zero_add]
        refine atI_nat ?_
        rw [List.getElem?_map, List.getD_eq_getElem?_getD, List.getElem?_eq_getElem hi] <;> rfl
      have ab : atI (bs.map V.bl) (0 + (i : Int)) = some (.bl (bs.getD i false)) := by
        rw [Int.zero_add]
        refine atI_nat ?_
        rw [List.getElem?_map, List.getD_eq_getElem?_getD, List.getElem?_eq_getElem (by omega)] <;> rfl
      have eL : agL bs ms (i + 1) = ag1 (bs.getD i false) (ms.getD i 0) := by
        unfold agL at al ⊢
        rw [List.range_succ, List.all_append, al]
        simp
      have no : ag1 (bs.getD i false) (ms.getD i 0) = false → agL bs ms ms.length = false := fun h => by
        unfold agL
        rw [List.all_eq_false]
        exact ⟨i, List.mem_range.mpr hi, by rw [h]; decide⟩
      generalize bs.getD i false = v at ab eL no
      generalize ms.getD i 0 = q at am eL no
      walk_at "rd"
      refine r_ixL hm am ?_
      walk_at "rd"
      refine i_n (fun n1 => ?_) (fun n1 => ?_)
      · walk_at "rd"
        refine r_ixL hb ab ?_
        walk_at "rd"
        refine r_ixL hm am ?_
        walk_at "rd"
        refine i_n (fun n2 => ?_) (fun n2 => ?_)
        · walk_at "rd"
          rw [no (by simp [ag1, n1, n2])] at k
          exact k
        · walk_at "rd"
          exact ⟨rfl, ⟨_, rfl⟩, eL.trans (by simp [ag1, n2])⟩
      · walk_at "rd"
        exact ⟨rfl, ⟨_, rfl⟩, eL.trans (by simp [ag1, n1])⟩
    · rintro σ G ⟨rfl, ⟨e2, rfl⟩, al⟩
      walk_at "rd"
      rw [al] at k
      exact k
end

def spLaw (K : PySem.W.Frag) : Sp := fun vs H Q _ => ∃ (a : Addr) (ns : List Int), vs = [.ref a] ∧ SqL K H a (ns.map V.int) ∧ ns.length ≤ 63 ∧ ∀ H', Q (.bl true) H'
def sdF (qs : List Int) (c : Nat) (t : JT) (n : Int) : Bool := evB (fun i => (trs c n).getD i false) t
/-- the sides that the law collects -/
def sds (qs : List Int) (c : Nat) (t : JT) (i : Nat) : List Bool := ((List.range i).filter fun n : Nat => agL (trs c (0 + (n : Int))) qs c).map fun n : Nat => sdF qs c t (0 + (n : Int))
theorem sds_succ (qs : List Int) (c : Nat) (t : JT) (i : Nat) : sds qs c t (i + 1) = if agL (trs c (0 + (i : Int))) qs c = true then sds qs c t i ++ [sdF qs c t (0 + (i : Int))] else sds qs c t i := by
  unfold sds
  rw [List.range_succ, List.filter_append, List.map_append]
  by_cases h : agL (trs c (0 + (i : Int))) qs c = true
  · have e : [i].filter (fun n : Nat => agL (trs c (0 + (n : Int))) qs c) = [i] := by rw [List.filter_cons, if_pos h] <;> rfl
    rw [if_pos h, e]
    rfl
  · have e : [i].filter (fun n : Nat => agL (trs c (0 + (n : Int))) qs c) = [] := by rw [List.filter_cons, if_neg h] <;> rfl
    rw [if_neg h, e]
    exact List.append_nil _
theorem sds_len (qs : List Int) (c : Nat) (t : JT) (i : Nat) : (sds qs c t i).length ≤ i := by
  unfold sds
  rw [List.length_map]
  exact Nat.le_trans (List.length_filter_le _ _) (by rw [List.length_range]; omega)
theorem trs_len (c : Nat) (n : Int) : (trs c n).length = c := by
  unfold trs
  rw [List.length_map, List.length_range]
theorem trs_at {c i : Nat} (n : Int) (h : i < c) : (trs c n).getD i false = bitN n i := by
  unfold trs
  rw [List.getD_eq_getElem?_getD, List.getElem?_map, List.getElem?_range h] <;> rfl
theorem trs_take {c i : Nat} (n : Int) (h : i < c) : (trs c n).take (i + 1) = (trs c n).take i ++ [bitN n i] := by
  have hl : i < (trs c n).length := by rw [trs_len]; exact h
  have e : (trs c n)[i] = bitN n i := by simp [trs]
  rw [List.take_succ_eq_append_getElem hl, e]
/-- all marks are marks -/
def MkOk (qs : List Int) : Prop := ∀ q ∈ qs, 0 ≤ q ∧ q ≤ 2
theorem MkOk.at {qs : List Int} (h : MkOk qs) (i : Nat) : 0 ≤ qs.getD i 0 ∧ qs.getD i 0 ≤ 2 := by
  rw [List.getD_eq_getElem?_getD]
  cases e : qs[i]? with
  | none => decide
  | some q => exact h q (List.mem_of_getElem? e)
theorem sds_ag {qs : List Int} {c : Nat} {t : JT} {i : Nat} (hm : MkOk qs) (hl : ∀ j ∈ t.lvs, j < c) : ∀ s ∈ sds qs c t i, ag1 s (evM (fun j => qs.getD j 0) t) = true := fun s hs => by
  obtain ⟨n, hn, rfl⟩ := List.mem_map.mp hs
  have ha := (List.mem_filter.mp hn).2
  refine (ev_ag (t := t) (b := fun j => (trs c (0 + (n : Int))).getD j false) fun j hj => ⟨hm.at j, ?_⟩).2
  exact List.all_eq_true.mp ha j (List.mem_range.mpr (hl j hj))
theorem sds_ex {qs : List Int} {c : Nat} {t : JT} (hm : MkOk qs) (hc : c ≤ 4) (hl : ∀ j ∈ t.lvs, j < c) (hn : t.lvs.Nodup) {v : Bool} (h : ag1 v (evM (fun j => qs.getD j 0) t) = true) : v ∈ sds qs c t (2 ^ c) := by
  obtain ⟨b, h1, h2⟩ := ev_ex (m := fun j => qs.getD j 0) hm.at hn h
  obtain ⟨n, n1, n2⟩ := enc hc b
  unfold sds
  refine List.mem_map.mpr ⟨n, List.mem_filter.mpr ⟨List.mem_range.mpr n1, ?_⟩, ?_⟩
  · refine List.all_eq_true.mpr fun k hk => ?_
    have hk2 := List.mem_range.mp hk
    rw [trs_at _ hk2, n2 k hk2]
    exact h1 k
  · rw [← h2]
    exact evB_ext fun j hj => by rw [trs_at _ (hl j hj), n2 j (hl j hj)]
theorem mark_end {qs : List Int} {c : Nat} {t : JT} (hm : MkOk qs) (hc : c ≤ 4) (hl : ∀ j ∈ t.lvs, j < c) (hn : t.lvs.Nodup) : evM (fun j => qs.getD j 0) t = (if true ∈ sds qs c t (2 ^ c) ∧ false ∈ sds qs c t (2 ^ c) then 1 else 2 * b2 (decide (true ∈ sds qs c t (2 ^ c)))) := by
  have h1 := fun v h => sds_ex (v := v) hm hc hl hn h
  have h2 := sds_ag (qs := qs) (c := c) (t := t) (i := 2 ^ c) hm hl
  have h3 := (ev_ag (t := t) (m := fun j => qs.getD j 0) (b := fun j => decide (qs.getD j 0 = 2)) fun i _ => ⟨hm.at i, ag_any (hm.at i)⟩).1
  generalize evM (fun j => qs.getD j 0) t = m at h1 h2 h3
  generalize sds qs c t (2 ^ c) = l at h1 h2
  have h4 : m = 0 ∨ m = 1 ∨ m = 2 := by omega
  rcases h4 with rfl | rfl | rfl
  · have a : true ∉ l := fun z => absurd (h2 _ z) (by decide)
    simp [a, b2]
  · simp [h1 true (by decide), h1 false (by decide)]
  · have a : false ∉ l := fun z => absurd (h2 _ z) (by decide)
    simp [a, h1 true (by decide), b2]
theorem bl_has (b : Bool) (l : List Bool) : l.contains b = decide (b ∈ l) := by simp
section
variable {P : Program} {w : World} {K : PySem.W.Frag} {mg : Str → Option Value} {base : Heap}
theorem ok_law {f : Addr} {fd : FuncData} (F : Fun K "law" "law" s_law f fd) (T : Txt K mg) : FnOk P w K mg base CX0 24 f fd ["_law_script"] (spLaw K) := by
  refine F.ok sc_law (fun vs H Q E h => ?_) (fun cdv A outer s H vs Q E hr h => ⟨_, (pss_cons (ps_set (i := 1) sc_law.nd rfl (.inr rfl) (pe_call (ok_stream T) (hr.mono (by decide)) (by rfl) T.g_stream T.F_stream.kp T.b_stream .nil pass0 (pa_cons (pv 0) pa_nil)))
      (pss_cons (ps_set (i := 2) sc_law.nd rfl (.inl rfl) (pe_op op_add pe_int (pe_call (ok_draw T) (hr.mono (by decide)) (by rfl) T.g_draw T.F_draw.kp T.b_draw .nil pass0 (pa_cons (pv 1) (pa_cons pe_int pa_nil)))))
      (Evl.pss_cut (ps_if (pt_cmpR op_gt (pe_call (ok_draw T) (hr.mono (by decide)) (by rfl) T.g_draw T.F_draw.kp T.b_draw .nil pass0 (pa_cons (pv 1) (pa_cons pe_int pa_nil))) pe_int (nomark _))
      (pss_one (ps_set (i := 3) sc_law.nd rfl (.inl rfl) (pe_call (ok_distinct_twig T) (hr.mono (by decide)) (by rfl) T.g_distinct_twig T.F_distinct_twig.kp T.b_distinct_twig .nil pass0 (pa_cons (pv 1) (pa_cons (pv 2) pa_nil)))))
      (pss_one (ps_set (i := 3) sc_law.nd rfl (.inl rfl) (pe_call (ok_twig T) (hr.mono (by decide)) (by rfl) T.g_twig T.F_twig.kp T.b_twig .nil pass0 (pa_cons (pv 1) (pa_cons (pv 2) (pa_cons pe_int pa_nil)))))))
      (pss_cons (ps_set (i := 4) sc_law.nd rfl (.inl rfl) (pe_call (ok_grown T) (hr.mono (by decide)) (by rfl) T.g_grown T.F_grown.kp T.b_grown .nil pass0 (pa_cons (pv 3) pa_nil)))
      (pss_cons (ps_setLc (i := 5) (own := [("_law_k", 13)]) (g := gName 13) (tt := tYes) rfl sc_law.nd rfl rfl (sw_true rfl rfl rfl (by decide +kernel)) (pi_range1 (by rfl) T.z_range (pa_cons (pv 2) pa_nil)) (blkOk_by (own := [("_law_k", 13)]) (N := N_law) (sc := defScope s_law) (by decide +kernel)) (fun _ _ _ _ _ => pg_name (i := 13) sc_law.nd rfl (Or.inl rfl)) (fun _ _ _ _ _ => pts_nil) (fun _ _ _ _ _ => (pe_call (ok_draw T) (hr.mono (by decide)) (by rfl) T.g_draw T.F_draw.kp T.b_draw .nil pass0 (pa_cons (pv 1) (pa_cons pe_int pa_nil)))))
      (pss_cons (ps_set (i := 6) sc_law.nd rfl (.inl rfl) (pe_lst pa_nil))
      (pss_cons (ps_for PassesOwn.never rfl (pi_range1 (by rfl) T.z_range (pa_cons (pe_ix ix_list (pe_lst (pa_cons pe_int (pa_cons pe_int (pa_cons pe_int (pa_cons pe_int (pa_cons pe_int pa_nil)))))) (pv 2) (fun _ _ => rfl)) pa_nil)) (pg_name (i := 7) sc_law.nd rfl (.inr rfl))
      (pss_cons (ps_setLc (i := 8) (own := [("_law_k", 13)]) (g := gName 13) (tt := tYes) rfl sc_law.nd rfl rfl (sw_true rfl rfl rfl (by decide +kernel)) (pi_range1 (by rfl) T.z_range (pa_cons (pv 2) pa_nil)) (blkOk_by (own := [("_law_k", 13)]) (N := N_law) (sc := defScope s_law) (by decide +kernel)) (fun _ _ _ _ _ => pg_name (i := 13) sc_law.nd rfl (Or.inl rfl)) (fun _ _ _ _ _ => pts_nil) (fun _ _ _ _ _ => (pe_cmpR op_eq (pe_op op_mod (pe_callTy call_int1 (by rfl) T.z_int (by decide +kernel) (pa_cons (pe_op op_fdivW (pv 7) (pe_ix ix_listB (pe_lst (pa_cons pe_int (pa_cons pe_int (pa_cons pe_int (pa_cons pe_int pa_nil))))) (pv 13) (fun _ _ => rfl))) pa_nil)) pe_int) pe_int (nomark _))))
      (pss_one (ps_if (pt_val (pe_call (ok_agree T) (hr.mono (by decide)) (by rfl) T.g_agree T.F_agree.kp T.b_agree .nil pass0 (pa_cons (pv 8) (pa_cons (pv 5) pa_nil))))
      (pss_cons (ps_set (i := 9) sc_law.nd rfl (.inl rfl) (pe_cmpR op_eq (pe_call (ok_tree_value T) (hr.mono (by decide)) (by rfl) T.g_tree_value T.F_tree_value.kp T.b_tree_value .nil pass0 (pa_cons (pv 3) (pa_cons (pe_lc (own := [("_law_one", 14)]) (g := gName 14) (tt := tYes) rfl sc_law.nd (pi_list (pv 8)) (blkOk_by (own := [("_law_one", 14)]) (N := N_law) (sc := defScope s_law) (by decide +kernel)) (fun _ _ _ _ _ => pg_name (i := 14) sc_law.nd rfl (Or.inl rfl)) (fun _ _ _ _ _ => pts_nil) (fun _ _ _ _ _ => (pe_op op_mul pe_int (pe_callTy call_int1 (by rfl) T.z_int (by decide +kernel) (pa_cons (pv 14) pa_nil))))) pa_nil))) pe_int (nomark _)))
      (pss_cons (ps_set (i := 10) sc_law.nd rfl (.inl rfl) (pe_call (ok_tree_truth T) (hr.mono (by decide)) (by rfl) T.g_tree_truth T.F_tree_truth.kp T.b_tree_truth .nil pass0 (pa_cons (pv 4) (pa_cons (pe_callTy call_list_of (by rfl) T.z_list (by decide +kernel) (pa_cons (pv 8) pa_nil)) pa_nil))))
      (pss_cons (ps_if (PW.pt (pw_or (pt_not (pt_val (pe_callB call_isi (by rfl) T.z_isinstance (by decide +kernel) (pa_cons (pv 10) (pa_cons (pe_bltn (v := .ty "bool") (by rfl) T.z_bool (by decide +kernel) rfl) pa_nil))))) (pw_or1 (pt_cmpR op_ne (pv 10) (pv 9) (nomark _)))))
      (pss_one (ps_ret pe_bl))
      pss_nil)
      (pss_one (ps_expr (pe_bm PySem.F.plainAttrs_list PySem.F.slot_list_append PySem.F.type_list_append mt_append (pv 6) (pa_cons (pv 9) pa_nil)))))))
      pss_nil))))
      (pss_cons (ps_set (i := 11) sc_law.nd rfl (.inl rfl) (pe_call (ok_tree_mark T) (hr.mono (by decide)) (by rfl) T.g_tree_mark T.F_tree_mark.kp T.b_tree_mark .nil pass0 (pa_cons (pv 4) (pa_cons (pe_callTy call_list_of (by rfl) T.z_list (by decide +kernel) (pa_cons (pv 5) pa_nil)) pa_nil))))
      (pss_cons (ps_if (PW.pt (pw_or (pt_not (pt_val (pe_callB call_isi (by rfl) T.z_isinstance (by decide +kernel) (pa_cons (pv 11) (pa_cons (pe_bltn (v := .ty "int") (by rfl) T.z_int (by decide +kernel) rfl) pa_nil))))) (pw_or (pt_val (pe_callB call_isi (by rfl) T.z_isinstance (by decide +kernel) (pa_cons (pv 11) (pa_cons (pe_bltn (v := .ty "bool") (by rfl) T.z_bool (by decide +kernel) rfl) pa_nil)))) (pw_or (pt_cmpR op_lt (pv 11) pe_int (nomark _)) (pw_or1 (pt_cmpR op_gt (pv 11) pe_int (nomark _)))))))
      (pss_one (ps_ret pe_bl))
      pss_nil)
      (pss_cons (ps_for PassesOwn.never rfl (pi_list (pv 6)) (pg_name (i := 12) sc_law.nd rfl (.inl rfl))
      (pss_one (ps_if (PW.pt (pw_and (pt_cmpR op_ne (pv 11) pe_int (nomark _)) (pw_and1 (pt_cmpR op_ne (pv 12) (pe_cmpR op_eq (pv 11) pe_int (nomark _)) (nomark _)))))
      (pss_one (ps_ret pe_bl))
      pss_nil)))
      (pss_cons (ps_if (pt_cmpR op_lt (pe_lenSetD (by rfl) T.z_len (by rfl) T.z_set (pe_ix ix_list (pv 3) pe_int (fun _ _ => rfl))) (pe_callB call_len_seq (by rfl) T.z_len PySem.boot_len (pa_cons (pe_ix ix_list (pv 3) pe_int (fun _ _ => rfl)) pa_nil)) (nomark _))
      (pss_one (ps_ret pe_bl))
      pss_nil)
      (pss_cons (ps_if (PW.pt (pw_and (pt_cmpR op_in_seq pe_bl (pv 6) (by rfl)) (pw_and1 (pt_cmpR op_in_seq pe_bl (pv 6) (by rfl)))))
      (pss_one (ps_ret (pe_cmpR op_eq (pv 11) pe_int (nomark _))))
      pss_nil)
      (pss_one (ps_ret (pe_cmpR op_eq (pv 11) (pe_op op_mul pe_int (pe_callTy call_int1 (by rfl) T.z_int (by decide +kernel) (pa_cons (pe_cmpR op_in_seq pe_bl (pv 6) (by rfl)) pa_nil))) (nomark _)))))))))))))))), ?_⟩)
  · first | (obtain ⟨rfl, _⟩ := h; rfl) | (obtain ⟨_, rfl, _⟩ := h; rfl) | (obtain ⟨_, _, rfl, _⟩ := h; rfl) | (obtain ⟨_, _, _, rfl, _⟩ := h; rfl) | (obtain ⟨_, _, _, _, rfl, _⟩ := h; rfl) | (obtain ⟨_, _, _, _, _, rfl, _⟩ := h; rfl) | (obtain ⟨_, _, _, _, _, _, rfl, _⟩ := h; rfl) | (obtain ⟨_, _, _, _, _, _, _, rfl, _⟩ := h; rfl) | (obtain ⟨_, _, _, _, _, _, _, _, rfl, _⟩ := h; rfl) | (obtain ⟨_, _, _, _, _, _, _, _, _, rfl, _⟩ := h; rfl) | (obtain ⟨_, _, _, _, _, _, _, _, _, _, rfl, _⟩ := h; rfl) | (obtain ⟨_, _, _, _, _, _, _, _, _, _, _, rfl, _⟩ := h; rfl) | (obtain ⟨_, _, _, _, _, _, _, _, _, _, _, _, rfl, _⟩ := h; rfl) | (obtain ⟨_, _, _, _, _, _, _, _, _, _, _, _, _, rfl, _⟩ := h; rfl) | (obtain ⟨_, _, _, _, _, _, _, _, _, _, _, _, _, _, rfl, _⟩ := h; rfl)
  · obtain ⟨a, ns, rfl, hS, hl, k⟩ := h
    try dsimp only [cxOf, Cx.nox, Cx.wish]
    refine st_of (σ := [some _, none, none, none, none, none, none, none, none, none, none, none, none, none, none]) rfl ?_
    walk_at "rd"
    refine ⟨a, ns, rfl, hS, hl, fun S L H1 _ _ st1 => ?_⟩
    walk_at "rd"
    refine use_draw st1 (by decide) (by decide) (fun c0 H2 c1 c2 x2 st2 => ?_)
    walk_at "rd"
    refine ⟨fun σ' H' => ∃ (p : Addr) (ls : List Nat) (ms : List (Nat × Wd)), σ' = [some (.ref a), some (.ref S), some (.int (1 + c0)), some (.ref p), none, none, none, none, none, none, none, none, none, none, none] ∧ Strm S L ns H' ∧ TwR (Aw S H') p ls ms ∧ (∀ i ∈ ls, (i : Int) < 1 + c0) ∧ ls.length ≤ 20 ∧ GoodM ls.length ms, ?_, ?_⟩
    · walk_at "rd"
      refine use_draw st2 (by decide) (by decide) (fun z H3 z0 z1 x3 st3 => ?_)
      walk_at "rd"
      refine i_d (fun e => ?_) (fun e => ?_)
      · walk_at "rd"
        refine ⟨S, L, ns, 1 + c0, rfl, st3, by omega, by omega, fun p ls ms H4 x4 st4 tw hc hm gm => ?_⟩
        walk_at "rd"
        exact ⟨p, ls, ms, rfl, st4, tw, hc, by omega, gm⟩
      · walk_at "rd"
        refine ⟨S, L, ns, 1 + c0, 4, rfl, st3, by omega, by omega, by decide, by decide, fun p ls ms H4 x4 st4 tw hc hm gm => ?_⟩
        walk_at "rd"
        exact ⟨p, ls, ms, rfl, st4, tw, hc, by omega, gm⟩
    · rintro σ' H' ⟨p, ls, ms, rfl, st4, tw, hc, hln, gm⟩
      walk_at "rd"
      refine ⟨p, ls, ms, rfl, tw.same Aw.to, gm, hln, fun v t H5 s5 jr hmt => ?_⟩
      have st5 := st4.same s5
      have tw5 := tw.same (Aw.same s5)
      have elv : t.lvs = ls := mrgs_lvs hmt
      have hdep : t.dep ≤ 20 := Nat.le_trans (dep_le t) (by rw [elv]; exact hln)
      obtain ⟨c, rfl⟩ : ∃ c : Nat, c0 = (c : Int) := ⟨c0.toNat, (Int.toNat_of_nonneg c1).symm⟩
      have hc3 : c < 4 := by omega
      have hlc : ∀ j ∈ t.lvs, j < 1 + c := fun j hj => by
        have := hc j (elv ▸ hj)
        omega
      walk_at "rd"
      with_reducible refine c_lcR ?_
      walk_at "rd"
      refine ⟨by omega, by omega, fun D hD => lc_range (lo := 0) (n := (1 + (c : Int)).toNat) (fun i G => Strm S L ns G ∧ JR K G v t ∧ TwR (Aw D (Aw S G)) p ls ms ∧ ∃ qs : List Int, qs.length = i ∧ MkOk qs ∧ G D = some (.lst (qs.map V.int))) ?_ ?_ ?_⟩
      · exact ⟨st5.new hD, jr.same (same_new (Same.refl _) hD), tw5.same (Aw.hide hD), [], rfl, fun q hq => (List.not_mem_nil hq).elim, upd_same⟩
      · rintro i G hi ⟨stG, jrG, twG, qs, hqs, hmk, gD⟩
        have nDS := st5.neS hD
        have nDL := st5.neL hD
        walk_at "rd"
        refine ⟨rfl, ?_⟩
        walk_at "rd"
        refine use_draw stG (by decide) (by decide) (fun z G2 z0 z1 x6 st6 => ?_)
        obtain ⟨pS, nS, kS, eS, _⟩ := stG.at_
        have tp6 : Tp G G2 := Tp.ex x6 eS
        have gD6 := x6 _ _ nDS gD
        refine ⟨_, gD6, smallLt (by rw [List.length_map]; omega), st6.upd nDS nDL, (jrG.tp tp6).tp (Tp.lst (Tp.refl _) gD6), (twG.same (Aw.same (Aw.ex x6))).same Aw.at, qs ++ [z], by simp [hqs], fun q hq => ?_, ?_⟩
        · rcases List.mem_append.mp hq with hq | hq
          · exact hmk q hq
          · rw [List.mem_singleton.mp hq]
            omega
        · rw [upd_same, List.map_append]
          rfl
      · rintro G0 ⟨st6, jr6, tw6, qs, hqs, hmk, gD⟩
        have twG := (tw6.same Aw.to).same Aw.to
        have hqc : qs.length = 1 + c := by omega
        have hpw : ((2 ^ (1 + (c : Int)).toNat : Nat) : Int) ≤ 16 := by
          have : c = 0 ∨ c = 1 ∨ c = 2 ∨ c = 3 := by omega
          rcases this with rfl | rfl | rfl | rfl <;> decide
        have hcc : (1 + (c : Int)).toNat = 1 + c := by omega
        rw [hcc] at hpw
        have hmend := fun h => mark_end (c := 1 + c) (t := t) hmk (by omega) hlc h
        have hsag := fun i => sds_ag (i := i) hmk hlc
        generalize hNe : 2 ^ (1 + c) = N at hpw hmend
        walk_at "rd"
        intro sd hsd
        have ssd := same_new (o := .lst []) (Same.refl G0) hsd
        have gsd : (upd G0 sd (.lst [])) sd = some (.lst []) := upd_same
        generalize upd G0 sd (.lst []) = G1 at ssd gsd
        walk_at "rd"
        with_reducible refine c_rng1 ?_
        walk_at "rd"
        intro q1 hq1
        walk_at "rd"
        refine r_ixL (sql upd_same) (pows (c := 1 + (c : Int)) (by omega) (by omega)) ?_
        rw [hcc, hNe]
        have gsd2 := (upd_ne (o := .lst [.int 1, .int 2, .int 4, .int 8, .int 16]) (ne_of_none gsd hq1)).trans gsd
        have s02 : Same G0 (upd G1 q1 (.lst [.int 1, .int 2, .int 4, .int 8, .int 16])) := same_new ssd hq1
        generalize upd G1 q1 (.lst [.int 1, .int 2, .int 4, .int 8, .int 16]) = G2 at gsd2 s02
        walk_at "rd"
        refine ⟨by omega, by omega, for_range (lo := 0) (n := N) (fun i σ G => ∃ (e7 e8 e9 e10 : Option V), σ = [some (.ref a), some (.ref S), some (.int (1 + (c : Int))), some (.ref p), some v, some (.ref D), some (.ref sd), e7, e8, e9, e10, none, none, none, none] ∧ Same G0 G ∧ G sd = some (.lst ((sds qs (1 + c) t i).map V.bl))) ?_ ?_ ?_⟩
        · exact ⟨_, _, _, _, rfl, s02, gsd2⟩
        · rintro i σ G hi ⟨e7, e8, e9, e10, rfl, sG, gs⟩
          have gD1 := sG _ _ gD
          walk_at "rd"
          with_reducible refine c_lcR ?_
          walk_at "rd"
          refine ⟨by omega, by omega, fun B hB => lc_range (lo := 0) (n := (1 + (c : Int)).toNat) (fun j F => Same G F ∧ F B = some (.lst (((trs (1 + c) (0 + (i : Int))).take j).map V.bl))) ?_ ?_ ?_⟩
          · exact ⟨same_new (Same.refl _) hB, upd_same⟩
          · rintro j F hj ⟨sF, gB⟩
            have hp := p2_pos j
            have hjl : j < (trs (1 + c) (0 + (i : Int))).length := by
              rw [trs_len]
              omega
            have hdv : CDivW (0 + (i : Int)) (p2 j) := wide_div hp.1 (b := 4) (by omega) (by decide) (by decide)
            walk_at "rd"
            refine ⟨rfl, ?_⟩
            walk_at "rd"
            intro q3 hq3
            walk_at "rd"
            refine r_ixL (sql upd_same) (p2_at (by omega)) ?_
            have gB3 := (upd_ne (o := .lst [.int 1, .int 2, .int 4, .int 8]) (ne_of_none gB hq3)).trans gB
            have sF3 := same_new (o := .lst [.int 1, .int 2, .int 4, .int 8]) sF hq3
            generalize upd F q3 (.lst [.int 1, .int 2, .int 4, .int 8]) = F3 at gB3 sF3
            walk_at "rd"
            refine ⟨_, gB3, smallLt (by rw [List.length_map, List.length_take]; omega), same_mut sF3 hB, ?_⟩
            rw [upd_same, trs_take _ (show j < 1 + c by omega), List.map_append]
            rfl
          · rintro F ⟨sF, gB⟩
            rw [List.take_of_length_le (by rw [trs_len]; omega)] at gB
            have esd := sds_succ qs (1 + c) t i
            have gs1 := sF _ _ gs
            walk_at "rd"
            refine ⟨B, D, trs (1 + c) (0 + (i : Int)), qs, rfl, sql gB, sql (sF _ _ gD1), by rw [trs_len, hqc], by omega, ?_⟩
            rw [hqc]
            have hsl := sds_len qs (1 + c) t i
            have eT := trs_len (1 + c) (0 + (i : Int))
            unfold sdF at esd
            generalize trs (1 + c) (0 + (i : Int)) = bs at gB esd eT ⊢
            walk_at "rd"
            refine i_2 (fun hag => ?_) (fun hag => ?_)
            · rw [if_pos hag] at esd
              walk_at "rd"
              with_reducible refine c_lcL ?_
              walk_at "rd"
              refine ⟨⟨_, sql gB⟩, fun D2 hD2 => lc_list (xs := bs.map V.bl) (fun j F2 => Same F F2 ∧ F2 D2 = some (.lst (((bs.take j).map fun b => 2 * b2 b).map V.int))) ?_ ?_ ?_ ?_⟩
              · exact ⟨same_new (Same.refl _) hD2, upd_same⟩
              · rintro j F2 _ ⟨sF2, _⟩
                exact sql (sF2 _ _ gB)
              · rintro j y F2 hj ⟨sF2, gD2⟩
                rw [List.getElem?_map] at hj
                obtain ⟨b, hb, rfl⟩ := Option.map_eq_some_iff.mp hj
                obtain ⟨hj1, hb1⟩ := List.getElem?_eq_some_iff.mp hb
                walk_at "rd"
                refine ⟨rfl, ?_⟩
                walk_at "rd"
                refine ⟨_, gD2, smallLt (by simp; omega), same_mut sF2 hD2, ?_⟩
                rw [upd_same, List.take_succ_eq_append_getElem hj1, hb1, List.map_append, List.map_append]
                rfl
              · rintro F2 ⟨sF2, gD2⟩
                rw [List.length_map, List.take_length] at gD2
                have sGF := sG.trans (sF.trans sF2)
                refine ⟨p, D2, ls, ms, bs.map (fun b => 2 * b2 b), rfl, twG.same sGF, gm, hln, sql gD2, fun j hj => ?_, fun z F3 s3 hz => ?_⟩
                · rw [List.length_map, eT]
                  exact hlc j (elv ▸ hj)
                have ez : decide (z = 2) = evB (fun i => bs.getD i false) t := by
                  rw [mrgs_evM _ hmt] at hz
                  have e1 := (List.cons.inj hz).1
                  rw [evM_ext (c := fun i => 2 * b2 (bs.getD i false)) (fun j hj => ?_), evM_two] at e1
                  · rw [← e1, two_eq]
                  · have := hlc j hj
                    simp [List.getD_eq_getElem?_getD, eT, this]
                have gB3 := s3 _ _ (sF2 _ _ gB)
                have gs3 := s3 _ _ (sF2 _ _ gs1)
                walk_at "rd"
                rw [ez]
                have ql : SqL K F3 B (bs.map V.bl) := sql gB3
                walk_at "rd"
                intro l2 hl2
                have gs4 := (upd_ne (o := .lst (bs.map V.bl)) (ne_of_none gs3 hl2)).trans gs3
                have s4 := same_new (o := .lst (bs.map V.bl)) (Same.refl F3) hl2
                have gl4 : (upd F3 l2 (.lst (bs.map V.bl))) l2 = some (.lst (bs.map V.bl)) := upd_same
                generalize upd F3 l2 (.lst (bs.map V.bl)) = F4 at gs4 s4 gl4
                have s04 := sGF.trans (s3.trans s4)
                refine ⟨v, t, l2, bs.map V.bl, rfl, jr6.same s04, hdep, sql gl4, fun j hj => ⟨.bl (bs.getD j false), ?_, _, rfl⟩, fun _ => ?_⟩
                · have := hlc j hj
                  simp [List.getD_eq_getElem?_getD, eT, this]
                rw [evV_B (fun j hj => by rw [eT]; exact hlc j hj)]
                walk_at "rd"
                refine r_isi (b := true) (.base (.bl _)) (by decide +kernel) ?_
                walk_at "rd"
                walk_at "tf"
                walk_at "rd"
                refine i_n (fun h => absurd rfl h) (fun _ => ?_)
                have hsz : ((sds qs (1 + c) t i).map V.bl).length < sizeLine := smallLt (by rw [List.length_map]; omega)
                walk_at "rd"
                refine ⟨_, _, _, _, rfl, same_mut s04 hsd, ?_⟩
                rw [upd_same, esd, List.map_append]
                rfl
            · rw [if_neg (by rw [hag]; decide)] at esd
              walk_at "rd"
              exact ⟨_, _, _, _, rfl, sG.trans sF, by rw [esd]; exact gs1⟩
        · rintro σ G ⟨e7, e8, e9, e10, rfl, sG, gs⟩
          have ql : SqL K G D (qs.map V.int) := sql (sG _ _ gD)
          walk_at "rd"
          intro l2 hl2
          have gs4 := (upd_ne (o := .lst (qs.map V.int)) (ne_of_none gs hl2)).trans gs
          have s4 := same_new (o := .lst (qs.map V.int)) sG hl2
          have gl4 : (upd G l2 (.lst (qs.map V.int))) l2 = some (.lst (qs.map V.int)) := upd_same
          generalize upd G l2 (.lst (qs.map V.int)) = F4 at gs4 s4 gl4
          refine ⟨v, t, l2, qs.map V.int, rfl, jr6.same s4, hdep, sql gl4, fun j hj => ⟨.int (qs.getD j 0), ?_, _, rfl⟩, fun _ => ?_⟩
          · have := hlc j hj
            simp [List.getD_eq_getElem?_getD, hqc, this]
          rw [evV_M (fun j hj => by rw [hqc]; exact hlc j hj)]
          have hag := hsag N
          have hm3 := (ev_ag (t := t) (m := fun j => qs.getD j 0) (b := fun j => decide (qs.getD j 0 = 2)) fun i _ => ⟨hmk.at i, ag_any (hmk.at i)⟩).1
          have hsl := sds_len qs (1 + c) t N
          generalize evM (fun j => qs.getD j 0) t = mk at hag hmend hm3 ⊢
          generalize sds qs (1 + c) t N = sl at gs4 hag hmend hsl ⊢
          obtain ⟨lv, mgA, us, hp, hlv, hmg, mr⟩ := (twG.same s4).ex
          walk_at "rd"
          refine r_isi (b := true) (.base (.int _)) (by decide +kernel) ?_
          walk_at "rd"
          walk_at "tf"
          walk_at "rd"
          refine r_isi (b := false) (.base (.int _)) (by decide +kernel) ?_
          walk_at "rd"
          walk_at "tf"
          walk_at "rd"
          refine i_d (fun h => absurd h (by omega)) (fun _ => ?_)
          walk_at "rd"
          with_reducible refine c_forList ?_
          walk_at "rd"
          refine ⟨⟨_, sql gs4⟩, for_list (xs := sl.map V.bl) (fun j σ F => F = F4 ∧ ∃ e12, σ = [some (.ref a), some (.ref S), some (.int (1 + (c : Int))), some (.ref p), some v, some (.ref D), some (.ref sd), e7, e8, e9, e10, some (.int mk), e12, none, none]) ?_ ?_ ?_ ?_⟩
          · exact ⟨rfl, _, rfl⟩
          · rintro j σ F _ ⟨rfl, _⟩
            exact sql gs4
          · rintro j y σ F hj ⟨rfl, e12, rfl⟩
            rw [List.getElem?_map] at hj
            obtain ⟨b, hb, rfl⟩ := Option.map_eq_some_iff.mp hj
            have ha := hag b (List.mem_of_getElem? hb)
            walk_at "rd"
            refine i_n (fun n1 => ?_) (fun n1 => ?_)
            · walk_at "rd"
              refine i_n (fun n2 => absurd ?_ n2) (fun n2 => ?_)
              · simp [ag1, n1] at ha
                exact ha
              · walk_at "rd"
                exact ⟨rfl, _, rfl⟩
            · walk_at "rd"
              exact ⟨rfl, _, rfl⟩
          · rintro σ F ⟨rfl, e12, rfl⟩
            walk_at "rd"
            refine c_lenSetD ?_
            walk_at "rd"
            have hnn : nts ls = (ls.map fun i : Nat => (i : Int)).map V.int := by
              rw [List.map_map]
              rfl
            refine ⟨lv, ls.map fun i : Nat => (i : Int), rfl, by rw [← hnn]; exact sql hlv, by rw [List.length_map]; omega, ?_⟩
            have qlv : SqL K F lv (nts ls) := sql hlv
            have gsq : SqL K F sd (sl.map V.bl) := sql gs4
            walk_at "rd"
            refine i_d (fun _ => ?_) (fun hd => ?_)
            · walk_at "rd"
              exact k _
            · have hnd : t.lvs.Nodup := by
                rw [elv]
                have q := dif_nodup (ns := ls.map fun i : Nat => (i : Int)) (by rw [List.length_map]; rw [nts_len] at hd; omega)
                exact (List.pairwise_map.mp q).imp fun h z => h (congrArg _ z)
              have hme := hmend hnd
              walk_at "rd"
              rw [if_neg Bool.false_ne_true, in_bl, bl_has]
              refine i_d (fun y1 => ?_) (fun y1 => ?_)
              · walk_at "rd"
                rw [if_neg Bool.false_ne_true, in_bl, bl_has]
                refine i_d (fun y2 => ?_) (fun y2 => ?_)
                · walk_at "rd"
                  rw [if_pos ⟨y1, y2⟩] at hme
                  rw [decide_eq_true hme]
                  exact k _
                · walk_at "rd"
                  rw [if_neg Bool.false_ne_true, in_bl, bl_has]
                  walk_at "rd"
                  rw [if_neg (fun z => y2 z.2)] at hme
                  rw [decide_eq_true (show mk = 2 * (if decide (true ∈ sl) = true then 1 else 0) from hme)]
                  exact k _
              · walk_at "rd"
                rw [if_neg Bool.false_ne_true, in_bl, bl_has]
                walk_at "rd"
                rw [if_neg (fun z => y1 z.1)] at hme
                rw [decide_eq_true (show mk = 2 * (if decide (true ∈ sl) = true then 1 else 0) from hme)]
                exact k _
end
end Tac2
theorem all_mk {l : PySem.W.OpenLaw} {w : World} {K : PySem.W.Frag} {h : Heap} {mg : Str → Option Value} {fa : Addr} (X : K.In h) (G : h.Ns mainGlobals mg) (hfa : mg "law" = some (.ref fa))
    {f0 : Addr} {od0 an0 : Option Addr} {sl0 : Array (Option Value)} {oc0 kV0 dc0 pm0 cd0 ct0 : Value}
    {f1 : Addr} {od1 an1 : Option Addr} {sl1 : Array (Option Value)} {oc1 kV1 dc1 pm1 cd1 ct1 : Value}
    {f2 : Addr} {od2 an2 : Option Addr} {sl2 : Array (Option Value)} {oc2 kV2 dc2 pm2 cd2 ct2 : Value}
    {f3 : Addr} {od3 an3 : Option Addr} {sl3 : Array (Option Value)} {oc3 kV3 dc3 pm3 cd3 ct3 : Value}
    {f4 : Addr} {od4 an4 : Option Addr} {sl4 : Array (Option Value)} {oc4 kV4 dc4 pm4 cd4 ct4 : Value}
    {f5 : Addr} {od5 an5 : Option Addr} {sl5 : Array (Option Value)} {oc5 kV5 dc5 pm5 cd5 ct5 : Value}
    {f6 : Addr} {od6 an6 : Option Addr} {sl6 : Array (Option Value)} {oc6 kV6 dc6 pm6 cd6 ct6 : Value}
    {f7 : Addr} {od7 an7 : Option Addr} {sl7 : Array (Option Value)} {oc7 kV7 dc7 pm7 cd7 ct7 : Value}
    {f8 : Addr} {od8 an8 : Option Addr} {sl8 : Array (Option Value)} {oc8 kV8 dc8 pm8 cd8 ct8 : Value}
    {f9 : Addr} {od9 an9 : Option Addr} {sl9 : Array (Option Value)} {oc9 kV9 dc9 pm9 cd9 ct9 : Value}
    {f10 : Addr} {od10 an10 : Option Addr} {sl10 : Array (Option Value)} {oc10 kV10 dc10 pm10 cd10 ct10 : Value}
    {f11 : Addr} {od11 an11 : Option Addr} {sl11 : Array (Option Value)} {oc11 kV11 dc11 pm11 cd11 ct11 : Value}
    {f12 : Addr} {od12 an12 : Option Addr} {sl12 : Array (Option Value)} {oc12 kV12 dc12 pm12 cd12 ct12 : Value}
    {f13 : Addr} {od13 an13 : Option Addr} {sl13 : Array (Option Value)} {oc13 kV13 dc13 pm13 cd13 ct13 : Value}
    {f14 : Addr} {od14 an14 : Option Addr} {sl14 : Array (Option Value)} {oc14 kV14 dc14 pm14 cd14 ct14 : Value}
    {f15 : Addr} {od15 an15 : Option Addr} {sl15 : Array (Option Value)} {oc15 kV15 dc15 pm15 cd15 ct15 : Value}
    {f16 : Addr} {od16 an16 : Option Addr} {sl16 : Array (Option Value)} {oc16 kV16 dc16 pm16 cd16 ct16 : Value}
    (a0 : PySem.W.nsIn K mainGlobals "both_mark" = some (some (.ref f0)))
    (l0 : K.lookup f0 = some ⟨oc0, od0, .func (PySem.W.fnOf "both_mark" "both_mark" (defArgs s_both_mark) (defBody s_both_mark) (defScope s_both_mark) .none kV0 dc0 pm0 an0 cd0 ct0), sl0⟩)
    (c0 : PySem.W.codeIn K cd0 "both_mark" = true)
    (k0 : PySem.W.keepIn K (.ref f0) = true)
    (a1 : PySem.W.nsIn K mainGlobals "either_mark" = some (some (.ref f1)))
    (l1 : K.lookup f1 = some ⟨oc1, od1, .func (PySem.W.fnOf "either_mark" "either_mark" (defArgs s_either_mark) (defBody s_either_mark) (defScope s_either_mark) .none kV1 dc1 pm1 an1 cd1 ct1), sl1⟩)
    (c1 : PySem.W.codeIn K cd1 "either_mark" = true)
    (k1 : PySem.W.keepIn K (.ref f1) = true)
    (a2 : PySem.W.nsIn K mainGlobals "less_mark" = some (some (.ref f2)))
    (l2 : K.lookup f2 = some ⟨oc2, od2, .func (PySem.W.fnOf "less_mark" "less_mark" (defArgs s_less_mark) (defBody s_less_mark) (defScope s_less_mark) .none kV2 dc2 pm2 an2 cd2 ct2), sl2⟩)
    (c2 : PySem.W.codeIn K cd2 "less_mark" = true)
    (k2 : PySem.W.keepIn K (.ref f2) = true)
    (a3 : PySem.W.nsIn K mainGlobals "joined_truth" = some (some (.ref f3)))
    (l3 : K.lookup f3 = some ⟨oc3, od3, .func (PySem.W.fnOf "joined_truth" "joined_truth" (defArgs s_joined_truth) (defBody s_joined_truth) (defScope s_joined_truth) .none kV3 dc3 pm3 an3 cd3 ct3), sl3⟩)
    (c3 : PySem.W.codeIn K cd3 "joined_truth" = true)
    (k3 : PySem.W.keepIn K (.ref f3) = true)
    (a4 : PySem.W.nsIn K mainGlobals "joined_mark" = some (some (.ref f4)))
    (l4 : K.lookup f4 = some ⟨oc4, od4, .func (PySem.W.fnOf "joined_mark" "joined_mark" (defArgs s_joined_mark) (defBody s_joined_mark) (defScope s_joined_mark) .none kV4 dc4 pm4 an4 cd4 ct4), sl4⟩)
    (c4 : PySem.W.codeIn K cd4 "joined_mark" = true)
    (k4 : PySem.W.keepIn K (.ref f4) = true)
    (a5 : PySem.W.nsIn K mainGlobals "joined" = some (some (.ref f5)))
    (l5 : K.lookup f5 = some ⟨oc5, od5, .func (PySem.W.fnOf "joined" "joined" (defArgs s_joined) (defBody s_joined) (defScope s_joined) .none kV5 dc5 pm5 an5 cd5 ct5), sl5⟩)
    (c5 : PySem.W.codeIn K cd5 "joined" = true)
    (k5 : PySem.W.keepIn K (.ref f5) = true)
    (a6 : PySem.W.nsIn K mainGlobals "tree_truth" = some (some (.ref f6)))
    (l6 : K.lookup f6 = some ⟨oc6, od6, .func (PySem.W.fnOf "tree_truth" "tree_truth" (defArgs s_tree_truth) (defBody s_tree_truth) (defScope s_tree_truth) .none kV6 dc6 pm6 an6 cd6 ct6), sl6⟩)
    (c6 : PySem.W.codeIn K cd6 "tree_truth" = true)
    (k6 : PySem.W.keepIn K (.ref f6) = true)
    (a7 : PySem.W.nsIn K mainGlobals "tree_mark" = some (some (.ref f7)))
    (l7 : K.lookup f7 = some ⟨oc7, od7, .func (PySem.W.fnOf "tree_mark" "tree_mark" (defArgs s_tree_mark) (defBody s_tree_mark) (defScope s_tree_mark) .none kV7 dc7 pm7 an7 cd7 ct7), sl7⟩)
    (c7 : PySem.W.codeIn K cd7 "tree_mark" = true)
    (k7 : PySem.W.keepIn K (.ref f7) = true)
    (a8 : PySem.W.nsIn K mainGlobals "_law_stream" = some (some (.ref f8)))
    (l8 : K.lookup f8 = some ⟨oc8, od8, .func (PySem.W.fnOf "_law_stream" "_law_stream" (defArgs s__law_stream) (defBody s__law_stream) (defScope s__law_stream) .none kV8 dc8 pm8 an8 cd8 ct8), sl8⟩)
    (c8 : PySem.W.codeIn K cd8 "_law_stream" = true)
    (k8 : PySem.W.keepIn K (.ref f8) = true)
    (a9 : PySem.W.nsIn K mainGlobals "_law_draw" = some (some (.ref f9)))
    (l9 : K.lookup f9 = some ⟨oc9, od9, .func (PySem.W.fnOf "_law_draw" "_law_draw" (defArgs s__law_draw) (defBody s__law_draw) (defScope s__law_draw) .none kV9 dc9 pm9 an9 cd9 ct9), sl9⟩)
    (c9 : PySem.W.codeIn K cd9 "_law_draw" = true)
    (k9 : PySem.W.keepIn K (.ref f9) = true)
    (a10 : PySem.W.nsIn K mainGlobals "_law_twig" = some (some (.ref f10)))
    (l10 : K.lookup f10 = some ⟨oc10, od10, .func (PySem.W.fnOf "_law_twig" "_law_twig" (defArgs s__law_twig) (defBody s__law_twig) (defScope s__law_twig) .none kV10 dc10 pm10 an10 cd10 ct10), sl10⟩)
    (c10 : PySem.W.codeIn K cd10 "_law_twig" = true)
    (k10 : PySem.W.keepIn K (.ref f10) = true)
    (a11 : PySem.W.nsIn K mainGlobals "_law_distinct_twig" = some (some (.ref f11)))
    (l11 : K.lookup f11 = some ⟨oc11, od11, .func (PySem.W.fnOf "_law_distinct_twig" "_law_distinct_twig" (defArgs s__law_distinct_twig) (defBody s__law_distinct_twig) (defScope s__law_distinct_twig) .none kV11 dc11 pm11 an11 cd11 ct11), sl11⟩)
    (c11 : PySem.W.codeIn K cd11 "_law_distinct_twig" = true)
    (k11 : PySem.W.keepIn K (.ref f11) = true)
    (a12 : PySem.W.nsIn K mainGlobals "_law_grown" = some (some (.ref f12)))
    (l12 : K.lookup f12 = some ⟨oc12, od12, .func (PySem.W.fnOf "_law_grown" "_law_grown" (defArgs s__law_grown) (defBody s__law_grown) (defScope s__law_grown) .none kV12 dc12 pm12 an12 cd12 ct12), sl12⟩)
    (c12 : PySem.W.codeIn K cd12 "_law_grown" = true)
    (k12 : PySem.W.keepIn K (.ref f12) = true)
    (a13 : PySem.W.nsIn K mainGlobals "_law_join_marks" = some (some (.ref f13)))
    (l13 : K.lookup f13 = some ⟨oc13, od13, .func (PySem.W.fnOf "_law_join_marks" "_law_join_marks" (defArgs s__law_join_marks) (defBody s__law_join_marks) (defScope s__law_join_marks) .none kV13 dc13 pm13 an13 cd13 ct13), sl13⟩)
    (c13 : PySem.W.codeIn K cd13 "_law_join_marks" = true)
    (k13 : PySem.W.keepIn K (.ref f13) = true)
    (a14 : PySem.W.nsIn K mainGlobals "_law_tree_value" = some (some (.ref f14)))
    (l14 : K.lookup f14 = some ⟨oc14, od14, .func (PySem.W.fnOf "_law_tree_value" "_law_tree_value" (defArgs s__law_tree_value) (defBody s__law_tree_value) (defScope s__law_tree_value) .none kV14 dc14 pm14 an14 cd14 ct14), sl14⟩)
    (c14 : PySem.W.codeIn K cd14 "_law_tree_value" = true)
    (k14 : PySem.W.keepIn K (.ref f14) = true)
    (a15 : PySem.W.nsIn K mainGlobals "_law_agree" = some (some (.ref f15)))
    (l15 : K.lookup f15 = some ⟨oc15, od15, .func (PySem.W.fnOf "_law_agree" "_law_agree" (defArgs s__law_agree) (defBody s__law_agree) (defScope s__law_agree) .none kV15 dc15 pm15 an15 cd15 ct15), sl15⟩)
    (c15 : PySem.W.codeIn K cd15 "_law_agree" = true)
    (k15 : PySem.W.keepIn K (.ref f15) = true)
    (a16 : PySem.W.nsIn K mainGlobals "law" = some (some (.ref f16)))
    (l16 : K.lookup f16 = some ⟨oc16, od16, .func (PySem.W.fnOf "law" "law" (defArgs s_law) (defBody s_law) (defScope s_law) .none kV16 dc16 pm16 an16 cd16 ct16), sl16⟩)
    (c16 : PySem.W.codeIn K cd16 "law" = true)
    (k16 : PySem.W.keepIn K (.ref f16) = true)
    (z_abs : PySem.W.nsIn K mainGlobals "abs" = some none)
    (z_bool : PySem.W.nsIn K mainGlobals "bool" = some none)
    (z_int : PySem.W.nsIn K mainGlobals "int" = some none)
    (z_isinstance : PySem.W.nsIn K mainGlobals "isinstance" = some none)
    (z_len : PySem.W.nsIn K mainGlobals "len" = some none)
    (z_list : PySem.W.nsIn K mainGlobals "list" = some none)
    (z_max : PySem.W.nsIn K mainGlobals "max" = some none)
    (z_min : PySem.W.nsIn K mainGlobals "min" = some none)
    (z_range : PySem.W.nsIn K mainGlobals "range" = some none)
    (z_set : PySem.W.nsIn K mainGlobals "set" = some none) :
    ∃ fd : FuncData, (∀ (s : Shared) (v : Value), BindsTo s fd ⟨[v], []⟩ [("_law_script", v)]) ∧ ∀ base : Heap, K.In base → base.Ns mainGlobals mg → FnOk l.prog w K mg base CX0 24 fa fd ["_law_script"] (spLaw K) := by
  have e := hfa.symm.trans (PySem.W.mg_of X G a16)
  cases e
  have F0 := fun_mk (st := s_both_mark) l0 c0 k0
  have b0 := F0.binds (ps := ["a", "b"]) fun _ _ _ _ _ _ us hl => match us, hl with | [_, _], _ => rfl
  have F1 := fun_mk (st := s_either_mark) l1 c1 k1
  have b1 := F1.binds (ps := ["a", "b"]) fun _ _ _ _ _ _ us hl => match us, hl with | [_, _], _ => rfl
  have F2 := fun_mk (st := s_less_mark) l2 c2 k2
  have b2 := F2.binds (ps := ["a", "b"]) fun _ _ _ _ _ _ us hl => match us, hl with | [_, _], _ => rfl
  have F3 := fun_mk (st := s_joined_truth) l3 c3 k3
  have b3 := F3.binds (ps := ["word", "t", "u"]) fun _ _ _ _ _ _ us hl => match us, hl with | [_, _, _], _ => rfl
  have F4 := fun_mk (st := s_joined_mark) l4 c4 k4
  have b4 := F4.binds (ps := ["word", "a", "b"]) fun _ _ _ _ _ _ us hl => match us, hl with | [_, _, _], _ => rfl
  have F5 := fun_mk (st := s_joined) l5 c5 k5
  have b5 := F5.binds (ps := ["tree", "given", "joining"]) fun _ _ _ _ _ _ us hl => match us, hl with | [_, _, _], _ => rfl
  have F6 := fun_mk (st := s_tree_truth) l6 c6 k6
  have b6 := F6.binds (ps := ["tree", "truths"]) fun _ _ _ _ _ _ us hl => match us, hl with | [_, _], _ => rfl
  have F7 := fun_mk (st := s_tree_mark) l7 c7 k7
  have b7 := F7.binds (ps := ["tree", "marks"]) fun _ _ _ _ _ _ us hl => match us, hl with | [_, _], _ => rfl
  have F8 := fun_mk (st := s__law_stream) l8 c8 k8
  have b8 := F8.binds (ps := ["_law_script"]) fun _ _ _ _ _ _ us hl => match us, hl with | [_], _ => rfl
  have F9 := fun_mk (st := s__law_draw) l9 c9 k9
  have b9 := F9.binds (ps := ["_law_stream_here", "_law_many"]) fun _ _ _ _ _ _ us hl => match us, hl with | [_, _], _ => rfl
  have F10 := fun_mk (st := s__law_twig) l10 c10 k10
  have b10 := F10.binds (ps := ["_law_stream_here", "_law_count", "_law_most"]) fun _ _ _ _ _ _ us hl => match us, hl with | [_, _, _], _ => rfl
  have F11 := fun_mk (st := s__law_distinct_twig) l11 c11 k11
  have b11 := F11.binds (ps := ["_law_stream_here", "_law_count"]) fun _ _ _ _ _ _ us hl => match us, hl with | [_, _], _ => rfl
  have F12 := fun_mk (st := s__law_grown) l12 c12 k12
  have b12 := F12.binds (ps := ["_law_twig_here"]) fun _ _ _ _ _ _ us hl => match us, hl with | [_], _ => rfl
  have F13 := fun_mk (st := s__law_join_marks) l13 c13 k13
  have b13 := F13.binds (ps := ["_law_word", "_law_one", "_law_two"]) fun _ _ _ _ _ _ us hl => match us, hl with | [_, _, _], _ => rfl
  have F14 := fun_mk (st := s__law_tree_value) l14 c14 k14
  have b14 := F14.binds (ps := ["_law_twig_here", "_law_values"]) fun _ _ _ _ _ _ us hl => match us, hl with | [_, _], _ => rfl
  have F15 := fun_mk (st := s__law_agree) l15 c15 k15
  have b15 := F15.binds (ps := ["_law_vector", "_law_marks"]) fun _ _ _ _ _ _ us hl => match us, hl with | [_, _], _ => rfl
  have F16 := fun_mk (st := s_law) l16 c16 k16
  have T : Txt K mg := { a_both_mark := _, d_both_mark := _, F_both_mark := F0, b_both_mark := b0, g_both_mark := PySem.W.mg_of X G a0, a_either_mark := _, d_either_mark := _, F_either_mark := F1, b_either_mark := b1, g_either_mark := PySem.W.mg_of X G a1, a_less_mark := _, d_less_mark := _, F_less_mark := F2, b_less_mark := b2, g_less_mark := PySem.W.mg_of X G a2, a_joined_truth := _, d_joined_truth := _, F_joined_truth := F3, b_joined_truth := b3, g_joined_truth := PySem.W.mg_of X G a3, a_joined_mark := _, d_joined_mark := _, F_joined_mark := F4, b_joined_mark := b4, g_joined_mark := PySem.W.mg_of X G a4, a_joined := _, d_joined := _, F_joined := F5, b_joined := b5, g_joined := PySem.W.mg_of X G a5, a_tree_truth := _, d_tree_truth := _, F_tree_truth := F6, b_tree_truth := b6, g_tree_truth := PySem.W.mg_of X G a6, a_tree_mark := _, d_tree_mark := _, F_tree_mark := F7, b_tree_mark := b7, g_tree_mark := PySem.W.mg_of X G a7, a_stream := _, d_stream := _, F_stream := F8, b_stream := b8, g_stream := PySem.W.mg_of X G a8, a_draw := _, d_draw := _, F_draw := F9, b_draw := b9, g_draw := PySem.W.mg_of X G a9, a_twig := _, d_twig := _, F_twig := F10, b_twig := b10, g_twig := PySem.W.mg_of X G a10, a_distinct_twig := _, d_distinct_twig := _, F_distinct_twig := F11, b_distinct_twig := b11, g_distinct_twig := PySem.W.mg_of X G a11, a_grown := _, d_grown := _, F_grown := F12, b_grown := b12, g_grown := PySem.W.mg_of X G a12, a_join_marks := _, d_join_marks := _, F_join_marks := F13, b_join_marks := b13, g_join_marks := PySem.W.mg_of X G a13, a_tree_value := _, d_tree_value := _, F_tree_value := F14, b_tree_value := b14, g_tree_value := PySem.W.mg_of X G a14, a_agree := _, d_agree := _, F_agree := F15, b_agree := b15, g_agree := PySem.W.mg_of X G a15, z_abs := PySem.W.mg_none_of X G z_abs, z_bool := PySem.W.mg_none_of X G z_bool, z_int := PySem.W.mg_none_of X G z_int, z_isinstance := PySem.W.mg_none_of X G z_isinstance, z_len := PySem.W.mg_none_of X G z_len, z_list := PySem.W.mg_none_of X G z_list, z_max := PySem.W.mg_none_of X G z_max, z_min := PySem.W.mg_none_of X G z_min, z_range := PySem.W.mg_none_of X G z_range, z_set := PySem.W.mg_none_of X G z_set }
  exact ⟨PySem.W.fnOf "law" "law" (defArgs s_law) (defBody s_law) (defScope s_law) .none kV16 dc16 pm16 an16 cd16 ct16, fun s v => .of_eq rfl, fun base _ _ => ok_law F16 T⟩
end Y
open PySem PySem.W PyProof.Rows
set_option maxHeartbeats 0 in
theorem PySem.Challenge.cw_wholepages_k53_exact_trees_holds : PySem.Challenge.rw_wholepages_k53_exact_trees.Holds := by
  w_on; o_law; k_head; (case hw => w_witness2)
  k_fill
  refine L2.walk_of (l := PySem.Challenge.rw_wholepages_k53_exact_trees) (n := 63) (k := 24) (x := "_law_script") (CX := fun _ => L2.CX0) (sp := fun w => Y.spLaw _) rfl (by decide) rfl ⟨rfl, by decide, by decide⟩ (fun w h Y => PySem.W.kIn_of Y) ?F (fun _ _ a ns hl _ hS => ⟨a, ns, rfl, hS, hl, fun _ => rfl⟩) (fun _ _ _ _ _ h => h)
  case F =>
    intro w mg fa h KX G hmg
    refine' Y.all_mk KX G hmg ?a0 ?l0 ?c0 ?k0 ?a1 ?l1 ?c1 ?k1 ?a2 ?l2 ?c2 ?k2 ?a3 ?l3 ?c3 ?k3 ?a4 ?l4 ?c4 ?k4 ?a5 ?l5 ?c5 ?k5 ?a6 ?l6 ?c6 ?k6 ?a7 ?l7 ?c7 ?k7 ?a8 ?l8 ?c8 ?k8 ?a9 ?l9 ?c9 ?k9 ?a10 ?l10 ?c10 ?k10 ?a11 ?l11 ?c11 ?k11 ?a12 ?l12 ?c12 ?k12 ?a13 ?l13 ?c13 ?k13 ?a14 ?l14 ?c14 ?k14 ?a15 ?l15 ?c15 ?k15 ?a16 ?l16 ?c16 ?k16 ?z_abs ?z_bool ?z_int ?z_isinstance ?z_len ?z_list ?z_max ?z_min ?z_range ?z_set
    (case a0 => k_is); (case l0 => k_is); (case c0 => k_is); (case k0 => k_is); (case a1 => k_is); (case l1 => k_is); (case c1 => k_is); (case k1 => k_is); (case a2 => k_is); (case l2 => k_is); (case c2 => k_is); (case k2 => k_is); (case a3 => k_is); (case l3 => k_is); (case c3 => k_is); (case k3 => k_is); (case a4 => k_is); (case l4 => k_is); (case c4 => k_is); (case k4 => k_is); (case a5 => k_is); (case l5 => k_is); (case c5 => k_is); (case k5 => k_is); (case a6 => k_is); (case l6 => k_is); (case c6 => k_is); (case k6 => k_is); (case a7 => k_is); (case l7 => k_is); (case c7 => k_is); (case k7 => k_is); (case a8 => k_is); (case l8 => k_is); (case c8 => k_is); (case k8 => k_is); (case a9 => k_is); (case l9 => k_is); (case c9 => k_is); (case k9 => k_is); (case a10 => k_is); (case l10 => k_is); (case c10 => k_is); (case k10 => k_is); (case a11 => k_is); (case l11 => k_is); (case c11 => k_is); (case k11 => k_is); (case a12 => k_is); (case l12 => k_is); (case c12 => k_is); (case k12 => k_is); (case a13 => k_is); (case l13 => k_is); (case c13 => k_is); (case k13 => k_is); (case a14 => k_is); (case l14 => k_is); (case c14 => k_is); (case k14 => k_is); (case a15 => k_is); (case l15 => k_is); (case c15 => k_is); (case k15 => k_is); (case a16 => k_is); (case l16 => k_is); (case c16 => k_is); (case k16 => k_is); (case z_abs => k_is); (case z_bool => k_is); (case z_int => k_is); (case z_isinstance => k_is); (case z_len => k_is); (case z_list => k_is); (case z_max => k_is); (case z_min => k_is); (case z_range => k_is); (case z_set => k_is)

