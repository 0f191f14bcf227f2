import PyProof.Rows.All
import Wide.All
import OpenK.AllK
import Wide.FinOn
import HandS.ForMost
import HandS.Wide
import HandS.IsInst
import HandS.EndBits
import HandS.Style
import HandS.SortInts
import HandS.Evl
import HandS.TupMul
import HandS.WordsExc
import HandS.ExcOwn
import HandS.Exc
import HandS.ExcInit
import HandS.ExcField
import KE.KExcIs
import HandS.TryMany
import HandS.Conv
import HandS.Zip
import HandS.CallLocal
import HandS.Defaults
import HandS.Strs
import HandS.SetKeys
import HandS.SetBool
import HandS.Slots
import HandS.SlotsOwn
import HandS.Property
import HandS.ClsMeth
import HandS.MakeKwOnly
import HandS.FStr
import PySem.Challenge.RW_wholepages_k51_trees_and_plans_checked
set_option Elab.async false
set_option linter.all false
set_option maxRecDepth 100000
set_option maxHeartbeats 4000000

/-! ## Common: steps of a reading, heaps, the law's own helpers -/
namespace Y
open PySem PySem.Spec PyProof.Rows L2
/-! ### steps -/
section
variable {K : PySem.W.Frag} {σ : L2.St} {H : Hp} {D : Ends} {ta tb te tc : TE} {t u : TS} {c d : TT} {Q : VK} {R : Bool → Hp → Prop}
theorem c_seq (h : t { D with nx := u D } σ H) : tSeq t u D σ H := h
theorem st_of {t : TS} {σ0 : L2.St} (e : σ0 = σ) (h : t D σ H) : t D σ0 H := by
  rw [e]
  exact h
theorem c_next (h : D.nx σ H) : tNext D σ H := h
theorem c_asg {g : TG} (h : te σ H fun x H1 => g x σ H1 D.nx) : tAsg te g D σ H := h
theorem c_gname {i : Nat} {v : V} {Q : L2.St → Hp → Prop} (h : Q (σ.set i (some v)) H) : gName i v σ H Q := h
theorem c_gsub {to ti : TE} {s : TSet} {v : V} {Q : L2.St → Hp → Prop} (h : to σ H fun o H1 => ti σ H1 fun i H2 => s o i v H2 fun H3 => Q σ H3) : gSub to ti s v σ H Q := h
theorem c_drop (h : te σ H fun _ H1 => D.nx σ H1) : tDrop te D σ H := h
theorem c_ret (h : te σ H D.rt) : tRet te D σ H := h
theorem c_retN (h : D.rt .non H) : tRetN D σ H := h
theorem c_ifs (h : c σ H fun b H1 => if b = true then t D σ H1 else u D σ H1) : tIfS c t u D σ H := h
theorem c_var {i : Nat} {v : V} (e : σ[i]? = some (some v)) (h : Q v H) : tVar i σ H Q := ⟨v, e, h⟩
theorem c_c {v : V} (h : Q v H) : tC v σ H Q := h
theorem c_op {r : R2} (h : ta σ H fun x H1 => tb σ H1 fun y H2 => r x y H2 Q) : tOp r ta tb σ H Q := h
theorem c_un {r : V → Hp → VK → Prop} (h : ta σ H fun x H1 => r x H1 Q) : tUn r ta σ H Q := h
theorem c_test (h : te σ H fun x H1 => ∃ k, x = .bl k ∧ R k H1) : tTest te σ H R := h
theorem c_B (h : te σ H fun x H1 => ∃ k, x = .bl k ∧ R k H1) : tB te σ H R := h
theorem c_bl {k : Bool} (h : R k H) : ∃ k', V.bl k = .bl k' ∧ R k' H := ⟨k, rfl, h⟩
theorem c_and (h : c σ H fun b H1 => if b = true then d σ H1 R else R false H1) : tAnd c d σ H R := h
theorem c_or (h : c σ H fun b H1 => if b = true then R true H1 else d σ H1 R) : tOr c d σ H R := h
theorem c_not (h : c σ H fun b H1 => R (!b) H1) : tNot c σ H R := h
theorem c_andV (h : ta σ H fun x H1 => ∃ b, x = .bl b ∧ if b = true then tb σ H1 Q else Q (.bl false) H1) : tAndV ta tb σ H Q := h
theorem c_orV (h : ta σ H fun x H1 => ∃ b, x = .bl b ∧ if b = true then Q (.bl true) H1 else tb σ H1 Q) : tOrV ta tb σ H Q := h
theorem c_notV (h : ta σ H fun x H1 => ∃ b, x = .bl b ∧ Q (.bl (!b)) H1) : tNotV ta σ H Q := h
theorem c_if (h : c σ H fun b H1 => if b = true then ta σ H1 Q else tb σ H1 Q) : tIf c ta tb σ H Q := h
theorem c_CB {r : List V → Hp → VK → Prop} {t : TA} (h : t σ H fun vs H1 => r vs H1 Q) : tCB r t σ H Q := h
theorem c_nil {Q : List V → Hp → Prop} (h : Q [] H) : tNil σ H Q := h
theorem c_cons {tr : TA} {Q : List V → Hp → Prop} (h : ta σ H fun x H1 => tr σ H1 fun xs H2 => Q (x :: xs) H2) : tCons ta tr σ H Q := h
theorem c_call {sp : Sp} {dvs : List V} {E : XK} {t : TA} (h : t σ H fun vs H1 => sp (vs ++ dvs) H1 Q E) : tCall sp dvs E t σ H Q := h
theorem c_lst {t : TA} (h : t σ H fun xs H1 => xs.length ≤ sizeLine ∧ ∀ p, H1 p = none → Q (.ref p) (upd H1 p (.lst xs))) : tLst t σ H Q := h
theorem c_tup {t : TA} (h : t σ H fun xs H1 => xs.length ≤ sizeLine ∧ ∀ p, H1 p = none → Q (.ref p) (upd H1 p (.tup xs))) : tTup t σ H Q := h
theorem c_BM {T : String} {r : V → List V → Hp → VK → Prop} {to : TE} {t : TA} (h : to σ H fun x H1 => tyV K T x H1 ∧ t σ H1 fun xs H2 => r x xs H2 Q) : tBM K T r to t σ H Q := h
theorem c_BM0 {T : String} {r : V → List V → Hp → VK → Prop} {to : TE} (h : to σ H fun x H1 => tyV K T x H1 ∧ r x [] H1 Q) : tBM0 K T r to σ H Q := h
theorem c_chain {r r' : R2} (h : ta σ H fun x H1 => tb σ H1 fun y H2 => r x y H2 fun z H3 => ∃ k, z = .bl k ∧ if k = true then tc σ H3 fun w H4 => r' y w H4 Q else Q (.bl false) H3) : tChain r r' ta tb tc σ H Q := h
theorem c_for {wi : TI} {g : TG} {D : Ends} {xs : List V} {a : Addr} (hx : SqL K H a xs)
    (h : ∃ W : Nat → Nat → L2.St → Hp → Prop, (∃ m, W 0 m σ H) ∧ ∀ i m σ H, W i m σ H →
      ((Itl K a).stop i H ∧ D.nx σ H) ∨ ((Itl K a).go i H ∧ ∃ N : L2.St → Hp → Prop, (∀ σ' H', N σ' H' → ∃ m', m' < m ∧ W (i + 1) m' σ' H') ∧ ∀ x H', (Itl K a).yld i H x H' → g x σ H' fun σ2 H2 => t { D with nx := N, ct := N, bk := D.nx } σ2 H2)) :
    ∃ a', V.ref a = .ref a' ∧ (∃ xs, SqL K H a' xs) ∧ ∃ W : Nat → Nat → L2.St → Hp → Prop, (∃ m, W 0 m σ H) ∧ ∀ i m σ H, W i m σ H →
      ((Itl K a').stop i H ∧ D.nx σ H) ∨ ((Itl K a').go i H ∧ ∃ N : L2.St → Hp → Prop, (∀ σ' H', N σ' H' → ∃ m', m' < m ∧ W (i + 1) m' σ' H') ∧ ∀ x H', (Itl K a').yld i H x H' → g x σ H' fun σ2 H2 => t { D with nx := N, ct := N, bk := D.nx } σ2 H2) := ⟨a, rfl, ⟨xs, hx⟩, h⟩
/-- for x in xs, by what holds ahead of each turn -/
theorem c_forL {tl : TE} {g : TG} (h : tl σ H fun x H1 => ∃ a xs, x = .ref a ∧ SqL K H1 a xs ∧ ∃ Pv : Nat → L2.St → Hp → Prop, Pv 0 σ H1 ∧ (∀ i σ H, i ≤ xs.length → Pv i σ H → SqL K H a xs) ∧
      (∀ i x σ H, xs[i]? = some x → Pv i σ H → g x σ H fun σ2 H2 => t { D with nx := Pv (i + 1), ct := Pv (i + 1), bk := D.nx } σ2 H2) ∧ (∀ σ H, Pv xs.length σ H → D.nx σ H))
    (mono : ∀ Q Q' : VK, (∀ v H, Q v H → Q' v H) → tl σ H Q → tl σ H Q') : tFor (iList K tl) g t D σ H := by
  refine mono _ _ (fun v H1 h => ?_) h
  obtain ⟨a, xs, rfl, hx, Pv, h0, hl, hs, hd⟩ := h
  exact ⟨a, rfl, ⟨xs, hx⟩, for_list (xs := xs) Pv h0 hl hs hd⟩
theorem c_rng1 {ta : TA} {g : TG} (h : ta σ H fun vs H1 => ∃ j : Int, vs = [.int j] ∧ -(2 ^ 62) ≤ j ∧ j < 2 ^ 62 ∧ ∃ W : Nat → Nat → L2.St → Hp → Prop, (∃ m, W 0 m σ H1) ∧ ∀ i m σ H, W i m σ H →
      ((Itr 0 j.toNat).stop i H ∧ D.nx σ H) ∨ ((Itr 0 j.toNat).go i H ∧ ∃ N : L2.St → Hp → Prop, (∀ σ' H', N σ' H' → ∃ m', m' < m ∧ W (i + 1) m' σ' H') ∧ ∀ x H', (Itr 0 j.toNat).yld i H x H' → g x σ H' fun σ2 H2 => t { D with nx := N, ct := N, bk := D.nx } σ2 H2)) :
    tFor (iRng1 ta) g t D σ H := h
theorem c_forList {tl : TE} {g : TG} (h : tl σ H fun x H1 => ∃ a, x = .ref a ∧ (∃ xs, SqL K H1 a xs) ∧ ∃ W : Nat → Nat → L2.St → Hp → Prop, (∃ m, W 0 m σ H1) ∧ ∀ i m σ H, W i m σ H →
      ((Itl K a).stop i H ∧ D.nx σ H) ∨ ((Itl K a).go i H ∧ ∃ N : L2.St → Hp → Prop, (∀ σ' H', N σ' H' → ∃ m', m' < m ∧ W (i + 1) m' σ' H') ∧ ∀ x H', (Itl K a).yld i H x H' → g x σ H' fun σ2 H2 => t { D with nx := N, ct := N, bk := D.nx } σ2 H2)) :
    tFor (iList K tl) g t D σ H := h
theorem c_forTup {tl : TE} {g : TG} (h : tl σ H fun x H1 => ∃ a, x = .ref a ∧ (∃ xs, SqT K H1 a xs) ∧ ∃ W : Nat → Nat → L2.St → Hp → Prop, (∃ m, W 0 m σ H1) ∧ ∀ i m σ H, W i m σ H →
      ((Itt K a).stop i H ∧ D.nx σ H) ∨ ((Itt K a).go i H ∧ ∃ N : L2.St → Hp → Prop, (∀ σ' H', N σ' H' → ∃ m', m' < m ∧ W (i + 1) m' σ' H') ∧ ∀ x H', (Itt K a).yld i H x H' → g x σ H' fun σ2 H2 => t { D with nx := N, ct := N, bk := D.nx } σ2 H2)) :
    tFor (iTup K tl) g t D σ H := h
/-! operators by values -/
theorem r_I0 {g : Int → Int → V} {i j : Int} (h : Q (g i j) H) : rI0 g (.int i) (.int j) H Q := ⟨i, j, rfl, rfl, h⟩
theorem r_I {C : Int → Int → Prop} {g : Int → Int → V} {i j : Int} (hc : C i j) (h : Q (g i j) H) : rI C g (.int i) (.int j) H Q := ⟨i, j, rfl, rfl, hc, h⟩
theorem r_U {g : Int → V} {i : Int} (h : Q (g i) H) : rU g (.int i) H Q := ⟨i, rfl, h⟩
theorem dec_int {i j : Int} : decide (V.int i = V.int j) = decide (i = j) := by
  by_cases h : i = j
  · rw [decide_eq_true h, h, decide_eq_true rfl]
  · rw [decide_eq_false h, decide_eq_false fun z => h (V.int.inj z)]
theorem dec_bl {i j : Bool} : decide (V.bl i = V.bl j) = decide (i = j) := by cases i <;> cases j <;> rfl
theorem dec_str {i j : Str} : decide (V.str i = V.str j) = decide (i = j) := by
  by_cases h : i = j
  · rw [decide_eq_true h, h, decide_eq_true rfl]
  · rw [decide_eq_false h, decide_eq_false fun z => h (V.str.inj z)]
theorem r_eqI {i j : Int} (h : Q (.bl (decide (i = j))) H) : rEq (.int i) (.int j) H Q := ⟨rfl, by rw [dec_int]; exact h⟩
theorem r_neI {i j : Int} (h : Q (.bl (!decide (i = j))) H) : rNe (.int i) (.int j) H Q := ⟨rfl, by rw [dec_int]; exact h⟩
theorem r_eqB {i j : Bool} (h : Q (.bl (decide (i = j))) H) : rEq (.bl i) (.bl j) H Q := ⟨rfl, by rw [dec_bl]; exact h⟩
theorem r_neB {i j : Bool} (h : Q (.bl (!decide (i = j))) H) : rNe (.bl i) (.bl j) H Q := ⟨rfl, by rw [dec_bl]; exact h⟩
theorem r_eqS {i j : Str} (h : Q (.bl (decide (i = j))) H) : rEq (.str i) (.str j) H Q := ⟨rfl, by rw [dec_str]; exact h⟩
theorem r_neS {i j : Str} (h : Q (.bl (!decide (i = j))) H) : rNe (.str i) (.str j) H Q := ⟨rfl, by rw [dec_str]; exact h⟩
theorem r_isN {x : V} (h : Q (.bl (decide (x = .non))) H) : (fun (x y : V) (H : Hp) (Q : VK) => y = .non ∧ Q (.bl (decide (x = .non))) H) x .non H Q := ⟨rfl, h⟩
theorem r_ixL {p : Addr} {xs : List V} {i : Int} {v : V} (hx : SqL K H p xs) (ha : atI xs i = some v) (h : Q v H) : rIxL K (.ref p) (.int i) H Q := ⟨p, xs, i, v, rfl, rfl, hx, ha, h⟩
theorem r_ixT {p : Addr} {xs : List V} {i : Int} {v : V} (hx : SqT K H p xs) (ha : atI xs i = some v) (h : Q v H) : rIxT K (.ref p) (.int i) H Q := ⟨p, xs, i, v, rfl, rfl, hx, ha, h⟩
theorem r_inL {n : Bool} {p : Addr} {x : V} {xs : List V} (hx : SqL K H p xs) (h1 : flatV x = true) (h2 : xs.all flatV = true) (h : Q (.bl (if n then !inV x xs else inV x xs)) H) : rIn K n x (.ref p) H Q := ⟨p, xs, rfl, .inl hx, h1, h2, h⟩
theorem r_inT {n : Bool} {p : Addr} {x : V} {xs : List V} (hx : SqT K H p xs) (h1 : flatV x = true) (h2 : xs.all flatV = true) (h : Q (.bl (if n then !inV x xs else inV x xs)) H) : rIn K n x (.ref p) H Q := ⟨p, xs, rfl, .inr hx, h1, h2, h⟩
theorem r_lenL {p : Addr} {xs : List V} (hx : SqL K H p xs) (h : Q (.int xs.length) H) : (fun (xs : List V) (H : Hp) (Q : VK) => ∃ p ys, xs = [.ref p] ∧ (SqL K H p ys ∨ SqT K H p ys) ∧ Q (.int ys.length) H) [.ref p] H Q := ⟨p, xs, rfl, .inl hx, h⟩
theorem r_lenT {p : Addr} {xs : List V} (hx : SqT K H p xs) (h : Q (.int xs.length) H) : (fun (xs : List V) (H : Hp) (Q : VK) => ∃ p ys, xs = [.ref p] ∧ (SqL K H p ys ∨ SqT K H p ys) ∧ Q (.int ys.length) H) [.ref p] H Q := ⟨p, xs, rfl, .inr hx, h⟩
theorem r_app {p : Addr} {xs : List V} {y : V} (hx : H p = some (.lst xs)) (hl : xs.length < sizeLine) (h : Q .non (upd H p (.lst (xs ++ [y])))) : rAppend (.ref p) [y] H Q := ⟨p, xs, y, rfl, rfl, hx, hl, h⟩
theorem r_pop {p : Addr} {xs : List V} {y : V} (hx : H p = some (.lst (xs ++ [y]))) (h : Q y (upd H p (.lst xs))) : rPop (.ref p) [] H Q :=
  ⟨p, xs ++ [y], y, rfl, rfl, hx, by simp, by rw [List.dropLast_concat]; exact h⟩
theorem r_setL {p : Addr} {xs : List V} {i : Int} {j : Nat} {v : V} {Q : Hp → Prop} (hx : H p = some (.lst xs)) (hj : ixN xs.length i = some j) (h : Q (upd H p (.lst (xs.set j v)))) : rSetL (.ref p) (.int i) v H Q := ⟨p, xs, i, j, rfl, rfl, hx, hj, h⟩
theorem r_pow18 {H : Hp} {Q : VK} (h : Q (.int 1000000000000000000) H) : rI CPow (fun i j => .int (i ^ j.toNat)) (.int 10) (.int 18) H Q := r_I ⟨by decide, by decide, by decide⟩ h
theorem r_pow17 {H : Hp} {Q : VK} (h : Q (.int 100000000000000000) H) : rI CPow (fun i j => .int (i ^ j.toNat)) (.int 10) (.int 17) H Q := r_I ⟨by decide, by decide, by decide⟩ h
theorem ixn {n j : Nat} (h : j < n) : ixN n (j : Int) = some j := by
  unfold ixN
  rw [if_pos (by omega), if_pos (by omega)]
  rfl
theorem map_at {ns : List Int} {i : Nat} (h : i < ns.length) : (ns.map V.int)[i]? = some (.int ns[i]) := by
  rw [List.getElem?_map, List.getElem?_eq_getElem h]
  rfl
theorem r_tyL {p : Addr} {xs : List V} (hx : SqL K H p xs) {B : Prop} (h : B) : tyV K "list" (.ref p) H ∧ B := ⟨.inl ⟨rfl, _, hx⟩, h⟩
end
/-! ### tests -/
theorem i_T {b : Bool} {A B : Prop} (hb : b = true) (h : A) : if b = true then A else B := by
  rw [if_pos hb]
  exact h
theorem i_F {b : Bool} {A B : Prop} (hb : b = false) (h : B) : if b = true then A else B := by
  rw [hb, if_neg Bool.false_ne_true]
  exact h
theorem i_2 {b : Bool} {A B : Prop} (h1 : b = true → A) (h2 : b = false → B) : if b = true then A else B := by
  cases b with
  | true => exact i_T rfl (h1 rfl)
  | false => exact i_F rfl (h2 rfl)
theorem i_d {p : Prop} [Decidable p] {A B : Prop} (h1 : p → A) (h2 : ¬ p → B) : if decide p = true then A else B := by
  by_cases h : p
  · exact i_T (decide_eq_true h) (h1 h)
  · exact i_F (decide_eq_false h) (h2 h)
theorem i_n {p : Prop} [Decidable p] {A B : Prop} (h1 : ¬ p → A) (h2 : p → B) : if (!decide p) = true then A else B := by
  by_cases h : p
  · exact i_F (by rw [decide_eq_true h]; rfl) (h2 h)
  · exact i_T (by rw [decide_eq_false h]; rfl) (h1 h)
theorem small {n : Nat} (h : n ≤ 100000) : n ≤ sizeLine := Nat.le_trans h (by decide)
theorem smallLt {n : Nat} (h : n < 100000) : n < sizeLine := Nat.lt_of_lt_of_le h (by decide)
/-! ### heaps: what stays but at S -/
def Ex (S : Addr) (H H' : Hp) : Prop := ∀ a o, a ≠ S → H a = some o → H' a = some o
theorem Ex.refl (S : Addr) (H : Hp) : Ex S H H := fun _ _ _ h => h
theorem Ex.trans {S : Addr} {H H1 H2 : Hp} (a : Ex S H H1) (b : Ex S H1 H2) : Ex S H H2 := fun x o n h => b x o n (a x o n h)
theorem Ex.new {S : Addr} {H H1 : Hp} {p : Addr} {o : HO} (e : Ex S H H1) (h : H1 p = none) : Ex S H (upd H1 p o) := fun a u n ha => by
  rw [upd_ne (ne_of_none (e a u n ha) h)]
  exact e a u n ha
theorem Ex.mut {S : Addr} {H H1 : Hp} {p : Addr} {o : HO} (e : Ex S H H1) (h : H p = none) : Ex S H (upd H1 p o) := fun a u n ha => by
  rw [upd_ne (ne_of_none ha h)]
  exact e a u n ha
theorem Ex.at {S : Addr} {H H1 : Hp} {o : HO} (e : Ex S H H1) : Ex S H (upd H1 S o) := fun a u n ha => by
  rw [upd_ne n]
  exact e a u n ha
theorem Ex.same {S : Addr} {H H1 H2 : Hp} (e : Ex S H H1) (s : Same H1 H2) : Ex S H H2 := fun a u n ha => s a u (e a u n ha)
theorem same_new {H H1 : Hp} {p : Addr} {o : HO} (e : Same H H1) (h : H1 p = none) : Same H (upd H1 p o) := fun a u ha => by
  rw [upd_ne (ne_of_none (e a u ha) h)]
  exact e a u ha
theorem same_mut {H H1 : Hp} {p : Addr} {o : HO} (e : Same H H1) (h : H p = none) : Same H (upd H1 p o) := fun a u ha => by
  rw [upd_ne (ne_of_none ha h)]
  exact e a u ha
theorem same_tup {K : PySem.W.Frag} {H H' : Hp} {a : Addr} {xs : List V} (e : Same H H') (h : SqT K H a xs) : SqT K H' a xs := by
  rcases h with (h | ⟨o, h⟩) | h
  · exact .inl (.inl (e _ _ h))
  · exact .inl (.inr ⟨o, e _ _ h⟩)
  · exact .inr h
theorem Ex.seq {K : PySem.W.Frag} {S : Addr} {H H' : Hp} {a : Addr} {xs : List V} (e : Ex S H H') (n : a ≠ S) (h : SqL K H a xs) : SqL K H' a xs := by
  rcases h with (h | ⟨o, h⟩) | h
  · exact .inl (.inl (e _ _ n h))
  · exact .inl (.inr ⟨o, e _ _ n h⟩)
  · exact .inr h
theorem Ex.tup {K : PySem.W.Frag} {S : Addr} {H H' : Hp} {a : Addr} {xs : List V} (e : Ex S H H') (n : a ≠ S) (h : SqT K H a xs) : SqT K H' a xs := by
  rcases h with (h | ⟨o, h⟩) | h
  · exact .inl (.inl (e _ _ n h))
  · exact .inl (.inr ⟨o, e _ _ n h⟩)
  · exact .inr h
theorem sql {K : PySem.W.Frag} {H : Hp} {a : Addr} {xs : List V} (h : H a = some (.lst xs)) : SqL K H a xs := .inl (.inl h)
theorem sqt {K : PySem.W.Frag} {H : Hp} {a : Addr} {xs : List V} (h : H a = some (.tup xs)) : SqT K H a xs := .inl (.inl h)

theorem seq' {K : PySem.W.Frag} {H H' : Hp} {a : Addr} {xs : List V} (h : SqL K H a xs) (e : Same H H') : SqL K H' a xs := e.seq h
theorem tup' {K : PySem.W.Frag} {H H' : Hp} {a : Addr} {xs : List V} (h : SqT K H a xs) (e : Same H H') : SqT K H' a xs := same_tup e h
theorem same_at {H H' : Hp} {a : Addr} {o : HO} (e : Same H H') (h : H a = some o) : H' a = some o := e _ _ h
theorem ex_at {S : Addr} {H H' : Hp} {a : Addr} {o : HO} (e : Ex S H H') (n : a ≠ S) (h : H a = some o) : H' a = some o := e _ _ n h
theorem ne_nn {H : Hp} {a b : Addr} {o : HO} (h' : H b = none) (h : H a = some o) : a ≠ b := ne_of_none h h'
theorem ne_nn' {H : Hp} {a b : Addr} {o : HO} (h' : H b = none) (h : H a = some o) : b ≠ a := (ne_of_none h h').symm
section
variable {K : PySem.W.Frag} {σ : L2.St} {H : Hp} {tb te : TE} {c : TT} {Q : VK} {g : TG} {vs : List Nat}
theorem c_lcT (h : te σ H fun x H1 => ∃ a, x = .ref a ∧ (∃ xs, SqT K H1 a xs) ∧ ∀ D, H1 D = none → ∃ W : Nat → Nat → Hp → Prop, (∃ m, W 0 m (upd H1 D (.lst []))) ∧ ∀ i m G, W i m G →
      ((Itt K a).stop i G ∧ Q (.ref D) G) ∨ ((Itt K a).go i G ∧ ∃ Nx : Hp → Prop, (∀ G', Nx G' → ∃ m', m' < m ∧ W (i + 1) m' G') ∧ ∀ x G', (Itt K a).yld i G x G' → g x (wipe σ vs) G' fun σ2 H2 => wipe σ2 vs = wipe σ vs ∧ c σ2 H2 fun b H3 =>
        if b = true then tb σ2 H3 fun y H4 => ∃ acc, H4 D = some (.lst acc) ∧ acc.length < sizeLine ∧ Nx (upd H4 D (.lst (acc ++ [y]))) else Nx H3)) : tLc (iTup K te) g c tb vs σ H Q := h
theorem c_lcL (h : te σ H fun x H1 => ∃ a, x = .ref a ∧ (∃ xs, SqL K H1 a xs) ∧ ∀ D, H1 D = none → ∃ W : Nat → Nat → Hp → Prop, (∃ m, W 0 m (upd H1 D (.lst []))) ∧ ∀ i m G, W i m G →
      ((Itl K a).stop i G ∧ Q (.ref D) G) ∨ ((Itl K a).go i G ∧ ∃ Nx : Hp → Prop, (∀ G', Nx G' → ∃ m', m' < m ∧ W (i + 1) m' G') ∧ ∀ x G', (Itl K a).yld i G x G' → g x (wipe σ vs) G' fun σ2 H2 => wipe σ2 vs = wipe σ vs ∧ c σ2 H2 fun b H3 =>
        if b = true then tb σ2 H3 fun y H4 => ∃ acc, H4 D = some (.lst acc) ∧ acc.length < sizeLine ∧ Nx (upd H4 D (.lst (acc ++ [y]))) else Nx H3)) : tLc (iList K te) g c tb vs σ H Q := h
theorem c_lcR {ta : TA} (h : ta σ H fun us H1 => ∃ j : Int, us = [.int j] ∧ -(2 ^ 62) ≤ j ∧ j < 2 ^ 62 ∧ ∀ D, H1 D = none → ∃ W : Nat → Nat → Hp → Prop, (∃ m, W 0 m (upd H1 D (.lst []))) ∧ ∀ i m G, W i m G →
      ((Itr 0 j.toNat).stop i G ∧ Q (.ref D) G) ∨ ((Itr 0 j.toNat).go i G ∧ ∃ Nx : Hp → Prop, (∀ G', Nx G' → ∃ m', m' < m ∧ W (i + 1) m' G') ∧ ∀ x G', (Itr 0 j.toNat).yld i G x G' → g x (wipe σ vs) G' fun σ2 H2 => wipe σ2 vs = wipe σ vs ∧ c σ2 H2 fun b H3 =>
        if b = true then tb σ2 H3 fun y H4 => ∃ acc, H4 D = some (.lst acc) ∧ acc.length < sizeLine ∧ Nx (upd H4 D (.lst (acc ++ [y]))) else Nx H3)) : tLc (iRng1 ta) g c tb vs σ H Q := h
theorem c_yes {R : Bool → Hp → Prop} (h : R true H) : tYes σ H R := h
theorem in_bl (b : Bool) : ∀ bs : List Bool, inV (.bl b) (bs.map V.bl) = bs.contains b
  | [] => rfl
  | x :: r => by
    have ih := in_bl b r
    unfold inV at ih ⊢
    rw [List.map_cons, List.any_cons, ih, List.contains_cons]
    congr 1
    cases b <;> cases x <;> rfl
theorem flat_bl : ∀ bs : List Bool, (bs.map V.bl).all flatV = true
  | [] => rfl
  | x :: r => by
    rw [List.map_cons, List.all_cons, flat_bl r]
    rfl
end
/-! x is True, x is False where x may be None -/
def rIsW : R2 := fun x y H Q => ∃ b : Bool, y = .bl b ∧ (x = .non ∨ ∃ a, x = .bl a) ∧ Q (.bl (decide (x = .bl b))) H
def rNotW : R2 := fun x y H Q => ∃ b : Bool, y = .bl b ∧ (x = .non ∨ ∃ a, x = .bl a) ∧ Q (.bl (!decide (x = .bl b))) H
theorem op_isW {X : Cx} : OpR X (compareOp .Is) rIsW := by
  intro pins s σ H x y v u Q I rx ry h
  obtain ⟨b, rfl, hx, q⟩ := h
  cases (show u = Value.bool b from ry)
  rcases hx with rfl | ⟨a, rfl⟩
  · cases (show v = Value.none from rx)
    exact wpAny_is_other rfl (fun z => nomatch z) ⟨.bl false, H, I, rfl, by simpa using q⟩
  · cases (show v = Value.bool a from rx)
    by_cases e : a = b
    · subst e
      exact wpAny_is_self rfl ⟨.bl true, H, I, rfl, by simpa using q⟩
    · exact wpAny_is_other rfl (fun z => e (Value.bool.inj z)) ⟨.bl false, H, I, rfl, by simpa [e] using q⟩
theorem op_notW {X : Cx} : OpR X (compareOp .IsNot) rNotW := by
  intro pins s σ H x y v u Q I rx ry h
  obtain ⟨b, rfl, hx, q⟩ := h
  cases (show u = Value.bool b from ry)
  rcases hx with rfl | ⟨a, rfl⟩
  · cases (show v = Value.none from rx)
    exact wpAny_isNot_other rfl (fun z => nomatch z) ⟨.bl true, H, I, rfl, by simpa using q⟩
  · cases (show v = Value.bool a from rx)
    by_cases e : a = b
    · subst e
      exact wpAny_isNot_self rfl ⟨.bl false, H, I, rfl, by simpa using q⟩
    · exact wpAny_isNot_other rfl (fun z => e (Value.bool.inj z)) ⟨.bl true, H, I, rfl, by simpa [e] using q⟩
theorem r_isW {x : V} {b : Bool} {H : Hp} {Q : VK} (hx : x = .non ∨ ∃ a, x = .bl a) (q : Q (.bl (decide (x = .bl b))) H) : rIsW x (.bl b) H Q := ⟨b, rfl, hx, q⟩
theorem r_notW {x : V} {b : Bool} {H : Hp} {Q : VK} (hx : x = .non ∨ ∃ a, x = .bl a) (q : Q (.bl (!decide (x = .bl b))) H) : rNotW x (.bl b) H Q := ⟨b, rfl, hx, q⟩

/-! ### more steps: slices, truths that may be None, what is no list stays -/
section
variable {K : PySem.W.Frag} {σ : L2.St} {H : Hp} {ta te : TE} {Q : VK}
theorem c_sl {r : V → Option Int → Option Int → Hp → VK → Prop} {tl th : TO} (h : te σ H fun x H1 => tl σ H1 fun l H2 => th σ H2 fun u H3 => r x l u H3 Q) : tSl r te tl th σ H Q := h
theorem c_noPart {Q : Option Int → Hp → Prop} (h : Q none H) : tNoPart σ H Q := h
theorem c_part {Q : Option Int → Hp → Prop} (h : te σ H fun x H1 => ∃ i, x = .int i ∧ Q (some i) H1) : tPart te σ H Q := h
theorem r_slL {p : Addr} {xs : List V} {lo hi : Option Int} (hx : SqL K H p xs) (h : ∀ q, H q = none → Q (.ref q) (upd H q (.lst (cutV xs lo hi)))) : rSlL K (.ref p) lo hi H Q := ⟨p, xs, rfl, hx, h⟩
theorem r_slT {p : Addr} {xs : List V} {lo hi : Option Int} (hx : SqT K H p xs) (hn : ¬ (HT.sIx xs.length 0 lo = 0 ∧ HT.sIx xs.length xs.length hi = xs.length)) (h : ∀ q, H q = none → Q (.ref q) (upd H q (.tup (cutV xs lo hi)))) : rSlT K (.ref p) lo hi H Q := ⟨p, xs, rfl, hx, hn, h⟩
theorem r_cat {p q : Addr} {xs ys : List V} (hx : H p = some (.lst xs)) (hy : H q = some (.lst ys)) (hl : xs.length + ys.length ≤ sizeLine) (h : ∀ r, H r = none → Q (.ref r) (upd H r (.lst (xs ++ ys)))) : rCat (.ref p) (.ref q) H Q := ⟨p, q, xs, ys, rfl, rfl, hx, hy, hl, h⟩
theorem r_catT {p q : Addr} {xs ys : List V} (hx : SqT K H p xs) (hy : SqT K H q ys) (hn : xs ≠ []) (hl : xs.length + ys.length ≤ sizeLine) (h1 : ys = [] → Q (.ref p) H) (h2 : ys ≠ [] → ∀ r, H r = none → Q (.ref r) (upd H r (.tup (xs ++ ys)))) : rCatT K (.ref p) (.ref q) H Q := ⟨p, q, xs, ys, rfl, rfl, hx, hy, hn, hl, h1, h2⟩
end
/-- a truth: None, or a bool -/
def tb : Option Bool → V
  | none => .non
  | some b => .bl b
theorem in_tb (x : Option Bool) : ∀ bs : List (Option Bool), inV (tb x) (bs.map tb) = bs.contains x
  | [] => rfl
  | y :: r => by
    have ih := in_tb x r
    unfold inV at ih ⊢
    rw [List.map_cons, List.any_cons, ih, List.contains_cons]
    congr 1
    rcases x with _ | x <;> rcases y with _ | y <;> first | rfl | (cases x <;> rfl) | (cases y <;> rfl) | (cases x <;> cases y <;> rfl)
theorem flat_tb : ∀ bs : List (Option Bool), (bs.map tb).all flatV = true
  | [] => rfl
  | x :: r => by
    rw [List.map_cons, List.all_cons, flat_tb r]
    cases x <;> rfl
theorem tb_or (x : Option Bool) : tb x = .non ∨ ∃ a, tb x = .bl a := by
  cases x with
  | none => exact .inl rfl
  | some b => exact .inr ⟨b, rfl⟩
theorem tb_true (x : Option Bool) : decide (tb x = .bl true) = decide (x = some true) := by
  rcases x with _ | x
  · simp [tb]
  · cases x <;> simp [tb]
/-- what is no list stays -/
def Tp (H H' : Hp) : Prop := ∀ a o, H a = some o → (∀ ys, o ≠ .lst ys) → H' a = some o
theorem Tp.refl (H : Hp) : Tp H H := fun _ _ h _ => h
theorem Tp.trans {H H1 H2 : Hp} (a : Tp H H1) (b : Tp H1 H2) : Tp H H2 := fun x o h n => b x o (a x o h n) n
theorem Tp.same {H H1 : Hp} (s : Same H H1) : Tp H H1 := fun x o h _ => s x o h
theorem Tp.ex {S : Addr} {H H1 : Hp} {xs : List V} (e : Ex S H H1) (h : H S = some (.lst xs)) : Tp H H1 := fun x o hx n => e x o (fun z => by
  subst z
  rw [h] at hx
  exact n _ (Option.some.inj hx).symm) hx
theorem Tp.lst {H H1 : Hp} {p : Addr} {xs : List V} {o : HO} (e : Tp H H1) (h : H1 p = some (.lst xs)) : Tp H (upd H1 p o) := fun x u hx n => by
  have h2 := e x u hx n
  by_cases z : x = p
  · subst z
    rw [h] at h2
    exact absurd (Option.some.inj h2).symm (n _)
  · rw [upd_ne z]
    exact h2
theorem Tp.new {H H1 : Hp} {p : Addr} {o : HO} (e : Tp H H1) (h : H1 p = none) : Tp H (upd H1 p o) := fun x u hx n => by
  have h2 := e x u hx n
  rw [upd_ne (ne_of_none h2 h)]
  exact h2
theorem Tp.tup {K : PySem.W.Frag} {H H' : Hp} {a : Addr} {xs : List V} (e : Tp H H') (h : SqT K H a xs) : SqT K H' a xs := by
  rcases h with (h | ⟨o, h⟩) | h
  · exact .inl (.inl (e _ _ h (fun _ z => nomatch z)))
  · exact .inl (.inr ⟨o, e _ _ h (fun _ z => nomatch z)⟩)
  · exact .inr h
theorem Ex.free {S : Addr} {H H' : Hp} {q : Addr} (e : Ex S H H') (n : q ≠ S) (h : H' q = none) : H q = none := by
  cases z : H q with
  | none => rfl
  | some o =>
    have := e _ _ n z
    rw [h] at this
    cases this
/-! a test's outcome said by itself -/
def tMid (t : TT) : TT := fun σ H R => ∃ M : Bool → Hp → Prop, t σ H M ∧ ∀ b H', M b H' → R b H'
theorem pt_mid {X : Cx} {e : Expr} {t : TT} (h : PT X e t) : PT X e (tMid t) := ⟨fun pins s σ H Q I ⟨M, hm, k⟩ => thn (h.run pins s σ H M I hm) fun b s' ⟨H', I', q⟩ => ⟨H', I', k b H' q⟩⟩
theorem c_mid {t : TT} {σ : L2.St} {H : Hp} {R : Bool → Hp → Prop} (p : Prop) [Decidable p] (h : t σ H fun b H' => H' = H ∧ b = decide p) (h1 : p → R true H) (h2 : ¬ p → R false H) : tMid t σ H R :=
  ⟨_, h, fun b H' ⟨e1, e2⟩ => by
    subst e1 e2
    by_cases z : p
    · rw [decide_eq_true z]
      exact h1 z
    · rw [decide_eq_false z]
      exact h2 z⟩
theorem cut_to {xs ys : List V} {r : Int} (h : r = (xs.length : Int)) : cutV (xs ++ ys) none (some r) = xs := by
  subst h
  unfold cutV
  rw [HT.sIx_none, HT.sIx_nat, List.length_append, List.drop_zero, Nat.min_eq_left (by omega), Nat.sub_zero, List.take_left']
  rfl
theorem cut_from {xs ys : List V} {r : Int} (h : r = (xs.length : Int)) : cutV (xs ++ ys) (some r) none = ys := by
  subst h
  unfold cutV
  rw [HT.sIx_none, HT.sIx_nat, List.length_append, Nat.min_eq_left (by omega), List.drop_left', List.take_of_length_le (by omega)]
  rfl
theorem new_at {H H' : Hp} {p : Addr} {o : HO} (h : H p = none) (s : Same (upd H p o) H') : H' p = some o := s _ _ upd_same
theorem old_at {H H' : Hp} {p : Addr} {o : HO} (h : H p = some o) (s : Same H H') : H' p = some o := s _ _ h

/-! ### tuples unpacked, defs in local names, what stays where S may change -/
section
variable {K : PySem.W.Frag} {σ : L2.St} {H : Hp}
theorem c_gtup {n : Nat} {u : TGs} {a : Addr} {xs : List V} {Q : L2.St → Hp → Prop} (hx : SqT K H a xs) (hn : xs.length = n) (h : u xs σ H Q) : gTup K n u (.ref a) σ H Q := ⟨a, xs, rfl, hx, hn, h⟩
theorem c_gcons {t : TG} {u : TGs} {v : V} {r : List V} {Q : L2.St → Hp → Prop} (h : t v σ H fun σ' H' => u r σ' H' Q) : gCons t u (v :: r) σ H Q := ⟨v, r, rfl, h⟩
theorem c_gnil {Q : L2.St → Hp → Prop} (h : Q σ H) : gNil [] σ H Q := ⟨rfl, h⟩
end
def Aw (S : Addr) (H : Hp) : Hp := fun a => if a = S then none else H a
section
variable {S : Addr} {H H' : Hp}
theorem Aw.of {a : Addr} {o : HO} (h : H a = some o) (n : a ≠ S) : Aw S H a = some o := by
  unfold Aw
  rw [if_neg n]
  exact h
theorem Aw.to : Same (Aw S H) H := fun a o h => by
  unfold Aw at h
  by_cases e : a = S
  · rw [if_pos e] at h
    cases h
  · rw [if_neg e] at h
    exact h
theorem Aw.ne {a : Addr} {o : HO} (h : Aw S H a = some o) : a ≠ S := fun e => by
  unfold Aw at h
  rw [if_pos e] at h
  cases h
theorem Aw.ex (e : Ex S H H') : Same (Aw S H) (Aw S H') := fun a o h => Aw.of (e a o (Aw.ne h) (Aw.to _ _ h)) (Aw.ne h)
theorem Aw.same (e : Same H H') : Same (Aw S H) (Aw S H') := fun a o h => Aw.of (e a o (Aw.to _ _ h)) (Aw.ne h)
theorem Aw.up (e : Same H H') (n : H S = none) : Same H (Aw S H') := fun a o h => Aw.of (e a o h) (ne_of_none h n)
end
theorem c_callL {σ : L2.St} {H : Hp} {i : Nat} {f : Addr} {sp : Sp} {dvs : List V} {E : XK} {t : TA} {Q : VK} (hs : σ[i]? = some (some (.ref f))) (h : t σ H fun vs H1 => sp (vs ++ dvs) H1 Q E) : tCallL i f sp dvs E t σ H Q := ⟨hs, h⟩
theorem Aw.at {S p : Addr} {H : Hp} {o : HO} : Same (Aw p (Aw S H)) (Aw p (Aw S (upd H p o))) := fun a x h => by
  have n := Aw.ne h
  refine Aw.of (Aw.of ?_ (Aw.ne (Aw.to _ _ h))) n
  rw [upd_ne n]
  exact Aw.to _ _ (Aw.to _ _ h)
theorem c_lstRg {σ : L2.St} {H : Hp} {Q : VK} {te : L2.St → Hp → (Int → Int → Hp → Prop) → Prop} (h : te σ H fun a b H1 => RgOk a b ∧ ∀ q, H1 q = none → Q (.ref q) (upd H1 q (.lst (rgV a b)))) : tLstRg te σ H Q := h
theorem c_rg1 {σ : L2.St} {H : Hp} {ta : TE} {Q : Int → Int → Hp → Prop} (h : ta σ H fun x H1 => ∃ n, x = .int n ∧ Q 0 n H1) : tRg1 ta σ H Q := h
theorem seq_ix {d : Int} {n : Nat} (h0 : 0 ≤ d) (h1 : d < n) : seqIndex? d n = some d.toNat := by
  have h2 : ¬ d < 0 := by omega
  simp [seqIndex?, h2, h0, h1]
theorem erase_map {α β : Type} (f : α → β) : ∀ (l : List α) (i : Nat), (l.map f).eraseIdx i = (l.eraseIdx i).map f
  | [], _ => rfl
  | _ :: _, 0 => rfl
  | x :: l, i + 1 => by
    rw [List.map_cons, List.eraseIdx_cons_succ, List.eraseIdx_cons_succ, List.map_cons, erase_map f l i]
theorem Aw.no {S p : Addr} {H : Hp} (h : H p = none) : Aw S H p = none := by
  unfold Aw
  split
  · rfl
  · exact h
theorem Aw.hide {S p : Addr} {H : Hp} {o : HO} (h : H p = none) : Same (Aw S H) (Aw p (Aw S (upd H p o))) := Aw.up (Aw.same (same_new (Same.refl _) h)) (Aw.no h)
theorem c_aug {σ : L2.St} {H : Hp} {i : Nat} {te : TE} {ti : TIp} {D : Ends} {x : V} (hx : σ[i]? = some (some x)) (h : te σ H fun y H1 => ti x y H1 fun z H2 => D.nx (σ.set i (some z)) H2) : tAug i te ti D σ H := ⟨x, hx, h⟩
theorem r_ipI {f : Int → Int → Int} {i j : Int} {H : Hp} {Q : VK} (h : Q (.int (f i j)) H) : ipI f (.int i) (.int j) H Q := ⟨i, j, rfl, rfl, h⟩
theorem Aw.mut {S : Addr} {H : Hp} {o : HO} : Same (Aw S H) (Aw S (upd H S o)) := fun b x hb => by
  refine Aw.of ?_ (Aw.ne hb)
  rw [upd_ne (Aw.ne hb)]
  exact Aw.to _ _ hb
/-- a new object: what stood before stands, and it stands there -/
@[elab_as_elim] theorem alc {p : Addr} {H : Hp} {P : Hp → Prop} (o : HO) (hp : H p = none) (h : ∀ H', Same H H' → H' p = some o → P H') : P (upd H p o) := h _ (same_new (Same.refl _) hp) upd_same
/-! an expression's value said by itself -/
def tMidE (t : TE) : TE := fun σ H Q => ∃ M : V → Hp → Prop, t σ H M ∧ ∀ v H', M v H' → Q v H'
theorem pe_mid {X : Cx} {e : Expr} {t : TE} (h : PE X e t) : PE X e (tMidE t) := ⟨fun pins s σ H Q I ⟨M, hm, k⟩ => thn (h.run pins s σ H M I hm) fun v s' ⟨x, H', I', r, q⟩ => ⟨x, H', I', r, k x H' q⟩⟩
theorem c_midE {te : TE} {σ : L2.St} {H : Hp} {Q : VK} (M : V → Hp → Prop) (h : te σ H M) (k : ∀ v H', M v H' → Q v H') : tMidE te σ H Q := ⟨M, h, k⟩
/-- what is new in H' -/
def Nw (H H' : Hp) : Hp := fun a => match H a with
  | none => H' a
  | some _ => none
section
variable {S : Addr} {H H' H2 : Hp}
theorem Nw.of {a : Addr} {o : HO} (h : H' a = some o) (n : H a = none) : Nw H H' a = some o := by
  unfold Nw
  rw [n]
  exact h
theorem Nw.to : Same (Nw H H') H' := fun a o h => by
  unfold Nw at h
  cases e : H a with
  | none => rw [e] at h; exact h
  | some x => rw [e] at h; cases h
theorem Nw.no {a : Addr} {o : HO} (h : Nw H H' a = some o) : H a = none := by
  unfold Nw at h
  cases e : H a with
  | none => rfl
  | some x => rw [e] at h; cases h
theorem Nw.ne {a b : Addr} {o x : HO} (h : Nw H H' a = some o) (g : H b = some x) : a ≠ b := fun z => by
  rw [z] at h
  rw [Nw.no h] at g
  cases g
theorem Nw.aw {x : HO} (g : H S = some x) : Same (Nw H H') (Aw S H') := fun a o h => Aw.of (Nw.to _ _ h) (Nw.ne h g)
end
section
variable {S : Addr} {B H H1 H' : Hp}
theorem Nw.same (e : Same H H') : Same (Nw B H) (Nw B H') := fun a o h => Nw.of (e a o (Nw.to _ _ h)) (Nw.no h)
theorem Nw.ex {x : HO} (g : B S = some x) (e : Ex S H H') : Same (Nw B H) (Nw B H') := fun a o h => Nw.of (e a o (Nw.ne h g) (Nw.to _ _ h)) (Nw.no h)
theorem Nw.up (e : ∀ a, H a = none → B a = none) : Same (Nw H H') (Nw B H') := fun a o h => Nw.of (Nw.to _ _ h) (e a (Nw.no h))
theorem Nw.at {p : Addr} {o : HO} : Same (Aw p (Nw B H)) (Aw p (Nw B (upd H p o))) := fun a x h => by
  have n := Aw.ne h
  have h2 := Aw.to _ _ h
  refine Aw.of (Nw.of ?_ (Nw.no h2)) n
  rw [upd_ne n]
  exact Nw.to _ _ h2
theorem Nw.neI {a p : Addr} {o x : HO} (h : Nw B H a = some o) (n : B p = some x) : a ≠ p := Nw.ne h n
/-- what is free now was free before -/
theorem Ex.fr {x : HO} (e : Ex S H H') (g : H' S = some x) {a : Addr} (h : H' a = none) : H a = none := by
  by_cases z : a = S
  · subst z
    rw [g] at h
    cases h
  · exact e.free z h
end

/-! ### the inner walk of a comprehension's second for -/
section
variable {X : Cx} {s : Shared} {H : Hp} {scope : Scope} {e : Env} {fp : List Addr} {tg l : Expr} {tl : TE}
theorem pi_listB (h : PE (X.blk s H scope e fp) l tl) : PI (X.blk s H scope e fp) tg l (iList X.K tl) := pi_list h
theorem pi_tupB (h : PE (X.blk s H scope e fp) l tl) : PI (X.blk s H scope e fp) tg l (iTup X.K tl) := pi_tup h
end
section
variable {X : Cx} {s : Shared} {H : Hp} {scope : Scope} {e : Env} {fp : List Addr}
theorem ix_tupB : IxR (X.blk s H scope e fp) (rIxT X.K) := ix_tup
theorem ix_listB : IxR (X.blk s H scope e fp) (rIxL X.K) := ix_list
end

/-! ### errors of the program's own: PagesError.__init__(self, text), isinstance of a caught error that has fields -/
section
variable {X : Cx} {e : Expr} {es : List Expr} {ta : TA} {p1 p2 pos : Pos}
/-- Own.__init__(self, ..), Own a class of the program without an __init__ of its own -/
theorem pe_owninit {x : Str} {D : Addr} {pl : Sem Bool} (hg : Gl X x) (hm : X.mg x = some (.ref D)) (ga : PySem.W.specialIn X.K (.ref D) "__getattribute__" = some (some (.builtin "type.__getattribute__"))) (rd : PySem.W.readsIn X.K D (.type "type") = true)
    (vV : PySem.W.findCls X.K (.ref D) (.type "type") "__init__" = some (.val (.builtin "ValueError.__init__"))) (ha : PA X (e :: es) ta)
    (hc : eval (.Call (.Attribute (.Name x p1) "__init__" p2) (e :: es) [] pos) X.env = (do { let ov ← eval (.Name x p1) X.env; standAt p2.atName; let (f, first) ← holding [ov] (getMethod ov "__init__" pl); callWith pos f first (backTo pos (starEach (e :: es) X.env)) (backToKw pos (keywordEach [] X.env)) }) := by rfl)
    (hd : (x == ("__debug__" : Str)) = false := by decide) (he : starEach (e :: es) X.env = (false, eval e X.env) :: starEach es X.env := by rfl) (hp : (backTo pos (starEach es X.env)).any (·.1) = false := by rfl) :
    PE X (.Call (.Attribute (.Name x p1) "__init__" p2) (e :: es) [] pos) (tVeI X.K ta) := ⟨fun pins s σ H Q I h => by
  refine PySem.W.methodCall_KW (ld_glob I hg hm ?_ hd) hc
  refine PySem.W.method_cls I.kIn ga (PySem.W.cls_value (v := .builtin "ValueError.__init__") I.kIn rd vV (by decide +kernel) ?_)
  show wpAny _ _ (callWith pos (.builtin "ValueError.__init__") [] _ []) _ _ _
  exact PyProof.Rows.callWith_method1 (thn (ha.run pos pins _ σ H _ (I.tok _) h) fun us s1 w => by
    obtain ⟨vs, H1, I1, r1, a, C, ws, ev, hl, T, ea, q⟩ := w
    subst ev
    obtain ⟨u0, ur, eu, ra, rw'⟩ : ∃ u0 ur, us = u0 :: ur ∧ RelV (.ref a) u0 ∧ Vals ws ur := by
      cases r1 with
      | cons ra rw' => exact ⟨_, _, rfl, ra, rw'⟩
    subst eu
    cases (show u0 = Value.ref a from ra)
    have hn : ur.length ≤ sizeLine := by
      rw [← Paired.length rw']
      exact Nat.le_trans hl (by decide)
    exact oinit_ok T I1 ea hn fun s' J => ⟨.non, H1, J, rfl, q⟩) he hp⟩
end
/-- isinstance(e, c), e the caught error, which has fields -/
def rIsX (K : PySem.W.Frag) (D a : Addr) (cls : Value) (d : Option Addr) : List V → Hp → VK → Prop := fun xs H Q => ∃ (c : V) (cv : Value) (b : Bool) (dd : Addr) (fs : List (Str × V)),
  xs = [.ref a, c] ∧ cls = .ref D ∧ d = some dd ∧ H dd = some (.xd fs) ∧ (∀ u, RelV c u → u = cv) ∧ PySem.W.kitOne K (.ref D) cv = some b ∧ Q (.bl b) H
structure IsC (K : PySem.W.Frag) (D : Addr) : Prop where
  c : PySem.W.isClsIn K D = true
  ga : PySem.W.findIn K (.ref D) "__getattribute__" = some (some (.builtin "BaseException.__getattribute__"))
  gt : PySem.W.findIn K (.ref D) "__getattr__" = some none
  sub : PySem.W.subIn K (.ref D) (.type "BaseException") = some true
  kc : PySem.W.findIn K (.ref D) "__class__" = some (some (.builtin "object.__class__"))
  kg : PySem.W.specialIn K (.builtin "object.__class__") "__get__" = some (some (.builtin "getset_descriptor.__get__"))
  kt : PySem.W.takesIn K (.builtin "object.__class__") = some true
  ob : PySem.W.mroIn K D (.type "object") = some true
theorem call_isX {X : Cx} {a D : Addr} {oe : Obj} {cls : Value} {d : Option Addr} {pn : List (Addr × Obj)} (C : IsC X.K D) (hz : Zc cls d oe) (hf : ∃ vs, oe.data = .fields vs) : CallR (X.suite a ((a, oe) :: pn)) (.builtin "isinstance") (rIsX X.K D a cls d) := fun pins s σ H xs us Q I r h => by
  obtain ⟨c, cv, b, dd, fs, ex, e1, e2, hx, hcv, ek, q⟩ := h
  subst ex e1 e2
  obtain ⟨u1, u2, eu, rx, rt⟩ : ∃ u1 u2, us = [u1, u2] ∧ RelV (.ref a) u1 ∧ RelV c u2 := by
    cases r with
    | cons rx rr =>
      cases rr with
      | cons rt rr =>
        cases rr
        exact ⟨_, _, rfl, rx, rt⟩
  subst eu
  cases (show u1 = Value.ref a from rx)
  cases hcv _ rt
  have hg : s.heap.get? a = some oe := (I.pin (a, oe) (List.mem_append_left _ List.mem_cons_self)).1
  have hx' : ObjOk X.prog X.w H s.heap dd (.xd fs) := I.hok dd _ hx
  obtain ⟨mA, ⟨od, es, ep, hod, _⟩, _⟩ := hx'
  have J : PySem.W.InstAt s.heap a oe D (some od) := by
    obtain ⟨vs, hv⟩ := hf
    obtain ⟨oc, odd, oda, osl⟩ := oe
    obtain ⟨h1, h2⟩ := hz
    dsimp only at h1 h2 hv
    subst h1 h2 hv
    exact ⟨hg, rfl, rfl, hod⟩
  exact PySem.W.kia_one (PySem.W.kitx_exc C.c C.ga C.gt C.sub C.kc C.kg C.kt C.ob) I.kIn J ek (fun z => nomatch z) fun tk => ⟨.bl b, H, I.kept (t' := tk) fun _ _ z => z, rfl, q⟩
/-- an own class as isinstance's and except's second -/
theorem kit_own {K : PySem.W.Frag} {C D : Addr} {b : Bool} (h1 : PySem.W.isClsIn K D = true) (h2 : PySem.W.typeIn K (.ref D) = some (.type "type")) (h3 : PySem.W.subIn K (.ref C) (.ref D) = some b) (h4 : b = true ∨ C ≠ D) : PySem.W.kitOne K (.ref C) (.ref D) = some b := by
  have e : PySem.W.kitCls K (.ref C) (.ref D) = some b := by
    show (if ((PySem.W.clsIn K D).isSome && PySem.W.typeIn K (.ref D) == some (.type "type")) = true then PySem.W.subIn K (.ref C) (.ref D) else none) = some b
    rw [show (PySem.W.clsIn K D).isSome = true from h1, h2]
    exact h3
  unfold PySem.W.kitOne
  by_cases q : (Value.ref C == Value.ref D) = true
  · rw [if_pos q]
    rcases h4 with h4 | h4
    · rw [h4]
    · exact absurd (Value.ref.inj (beq_iff_eq.mp q)) h4
  · rw [if_neg q]
    exact e
theorem exm_own {K : PySem.W.Frag} {C D : Addr} {b : Bool} (h0 : PySem.W.subIn K (.ref D) (.type "BaseException") = some true) (h1 : PySem.W.isClsIn K D = true) (h2 : PySem.W.typeIn K (.ref D) = some (.type "type")) (h3 : PySem.W.subIn K (.ref C) (.ref D) = some b) : PySem.W.exmOne K (.ref C) (.ref D) = some b := by
  show (if (PySem.W.subIn K (.ref D) (.type "BaseException") == some true) = true then (if ((PySem.W.clsIn K D).isSome && PySem.W.typeIn K (.ref D) == some (.type "type")) = true then PySem.W.subIn K (.ref C) (.ref D) else none) else none) = some b
  rw [h0, show (PySem.W.clsIn K D).isSome = true from h1, h2]
  exact h3

theorem free' {H H' : Hp} {p : Addr} (h : H' p = none) (s : Same H H') : H p = none := s.free h
theorem passF {X : Cx} : Passes (L2.CX X.prog X.w) X E0 := fun _ _ _ _ _ _ _ h => by
  obtain ⟨_, _, _, _, _, _, _, _, _, _, _, _, z⟩ := h
  exact z.elim
section
variable {K : PySem.W.Frag} {σ : L2.St} {H : Hp} {D : Ends} {Q : VK} {te to : TE} {ta : TA}
theorem c_vei (h : ta σ H fun vs H1 => ∃ (a C : Addr) (ws : List V), vs = .ref a :: ws ∧ ws.length ≤ 1000 ∧ OexC K C ∧ H1 a = some (exo a C none) ∧ Q .non H1) : tVeI K ta σ H Q := h
theorem c_ost {f : Str} (h : te σ H fun y H1 => to σ H1 fun x H2 => ∃ a C : Addr, x = .ref a ∧ OexC K C ∧ PySem.W.findIn K (.ref C) f = some none ∧
  ((H2 a = some (exo a C none) ∧ ∀ dx, H2 dx = none → dx ≠ a → D.nx σ (upd (upd H2 dx (exd dx [(f, y)])) a (exo a C (some dx)))) ∨
    ∃ (dx : Addr) (fs : List (Str × V)), H2 a = some (exo a C (some dx)) ∧ H2 dx = some (exd dx fs) ∧ fs.length ≤ 900 ∧ D.nx σ (upd H2 dx (exd dx ((f, y) :: fs))))) : tOst K f to te D σ H := h
theorem c_callS {sp : Sp} {E : L2.St → XK} (h : ta σ H fun vs H1 => sp vs H1 Q (E σ)) : tCallS sp E ta σ H Q := h
theorem c_xf {a : Addr} {cls : Value} {d : Option Addr} {C : Addr} {f : Str} (h : te σ H fun x H1 => x = .ref a ∧ cls = .ref C ∧ ∃ (dd : Addr) (fs : List (Str × V)) (v : V), d = some dd ∧ H1 dd = some (.xd fs) ∧ fs.lookup f = some v ∧ Q v H1) : tXf a cls d C f te σ H Q := h
theorem c_mko {C : Addr} {sp : Sp} {dvs : List V} {R : XK} (h : ta σ H fun vs H1 => vs.length ≤ 1000 ∧ ∀ a, H1 a = none → sp (.ref a :: (vs ++ dvs)) (upd H1 a (exo a C none))
  (fun v H2 => v = .non ∧ ∃ (d : Addr) (fs : List (Str × V)), H2 a = some (exo a C (some d)) ∧ H2 d = some (exd d fs) ∧ H1 d = none ∧ R (.ref C) (some d) (upd (del H2 a) d (.xd fs))) (fun _ _ _ => False)) : tMkO C sp dvs ta σ H R := h
end
def iOr (w1 w2 : TI) : TI := fun σ H R => w1 σ H R ∨ w2 σ H R
theorem pi_or {X : Cx} {tg l : Expr} {w1 w2 : TI} (h1 : PI X tg l w1) (h2 : PI X tg l w2) : PI X tg l (iOr w1 w2) := ⟨fun pins s σ H R I h => h.elim (h1.run pins s σ H R I) (h2.run pins s σ H R I)⟩
theorem c_forA {w1 w2 : TI} {g : TG} {t : TS} {D : Ends} {σ : L2.St} {H : Hp} (h : tFor w1 g t D σ H) : tFor (iOr w1 w2) g t D σ H := Or.inl h
theorem c_forB {w1 w2 : TI} {g : TG} {t : TS} {D : Ends} {σ : L2.St} {H : Hp} (h : tFor w2 g t D σ H) : tFor (iOr w1 w2) g t D σ H := Or.inr h
/-- the error's __init__: the field is laid -/
def spErr (C : Addr) (f : Str) : Sp := fun vs H Q _ => ∃ (a : Addr) (v : V), vs = [.ref a, v] ∧ H a = some (exo a C none) ∧ ∀ dx, H dx = none → dx ≠ a → Q .non (upd (upd H dx (exd dx [(f, v)])) a (exo a C (some dx)))
/-- the heap behind C(v): the object gone again, its fields at d -/
theorem err_heap {C : Addr} {f : Str} {v : V} {H : Hp} {R : XK} (k : ∀ d H', H d = none → Same H H' → H' d = some (.xd [(f, v)]) → R (.ref C) (some d) H') {a : Addr} (ha : H a = none) :
    spErr C f [.ref a, v] (upd H a (exo a C none)) (fun x H2 => x = .non ∧ ∃ (d : Addr) (fs : List (Str × V)), H2 a = some (exo a C (some d)) ∧ H2 d = some (exd d fs) ∧ H d = none ∧ R (.ref C) (some d) (upd (del H2 a) d (.xd fs))) (fun _ _ _ => False) := by
  refine ⟨a, v, rfl, upd_same, fun dx hd ne => ⟨rfl, dx, [(f, v)], upd_same, (upd_ne ne).trans upd_same, ?_, ?_⟩⟩
  · rw [← hd, upd_ne ne]
  · have hd' : H dx = none := by rw [← hd, upd_ne ne]
    refine k dx _ hd' (fun b o hb => ?_) upd_same
    have n1 : b ≠ dx := ne_of_none hb hd'
    have n2 : b ≠ a := ne_of_none hb ha
    rw [upd_ne n1, del_ne n2, upd_ne n2, upd_ne n1, upd_ne n2]
    exact hb
/-- what may stand in a row's place -/
inductive Knd (K : PySem.W.Frag) (H : Hp) : V → Prop where
  | non : Knd K H .non
  | bl (b : Bool) : Knd K H (.bl b)
  | int (i : Int) : Knd K H (.int i)
  | str (s : Str) : Knd K H (.str s)
  | lst {a : Addr} {xs : List V} (h : SqL K H a xs) : Knd K H (.ref a)
  | tup {a : Addr} {xs : List V} (h : SqT K H a xs) : Knd K H (.ref a)
theorem Knd.same {K : PySem.W.Frag} {H H' : Hp} {v : V} (h : Knd K H v) (s : Same H H') : Knd K H' v := by
  cases h with
  | non => exact .non
  | bl b => exact .bl b
  | int i => exact .int i
  | str x => exact .str x
  | lst h => exact .lst (s.seq h)
  | tup h => exact .tup (same_tup s h)
def btw (v : V) (lo hi : Int) : Bool := match v with
  | .int i => decide (lo ≤ i) && decide (i ≤ hi)
  | _ => false
def spBetween (K : PySem.W.Frag) : Sp := fun vs H Q _ => ∃ (v : V) (lo hi : Int), vs = [v, .int lo, .int hi] ∧ Knd K H v ∧ Q (.bl (btw v lo hi)) H
theorem c_raise {C : Addr} {f : Str} {v : V} {H : Hp} {R : XK} (k : ∀ d H', H d = none → Same H H' → H' d = some (.xd [(f, v)]) → R (.ref C) (some d) H') :
    1 ≤ 1000 ∧ ∀ a, H a = none → spErr C f [.ref a, v] (upd H a (exo a C none)) (fun x H2 => x = .non ∧ ∃ (d : Addr) (fs : List (Str × V)), H2 a = some (exo a C (some d)) ∧ H2 d = some (exd d fs) ∧ H d = none ∧ R (.ref C) (some d) (upd (del H2 a) d (.xd fs))) (fun _ _ _ => False) :=
  ⟨by decide, fun _ ha => err_heap k ha⟩

/-! ### several except clauses, each with a name of its own -/
/-- a clause: the class that it names, the slot of its name, what its suite does -/
structure Clause where
  cl : Value
  at_ : Nat
  does : Addr → Value → Option Addr → TS
/-- behind a suite its name is gone -/
def Ends.off (D : Ends) (i : Nat) : Ends :=
  { nx := fun τ G => D.nx (τ.set i none) G
    rt := D.rt
    bk := fun τ G => D.bk (τ.set i none) G
    ct := fun τ G => D.ct (τ.set i none) G }
def wNamed (K : PySem.W.Frag) (W0 : WX) (D : Ends) : List Clause → WX
  | [] => W0
  | q :: qs => fun C d τ G => ∃ b : Bool, PySem.W.exmOne K C q.cl = some b ∧
      (b = true → ∀ e : Addr, G e = none → q.does e C d (Ends.off D q.at_) (τ.set q.at_ (some (.ref e))) G) ∧ (b = false → wNamed K W0 D qs C d τ G)
inductive NamedOk (X : Cx) : List ExceptHandler → List Clause → Prop
  | nil : NamedOk X [] []
  | cons {y m : Str} {c : Value} {i : Nat} {f : Addr → Value → Option Addr → TS} {st : Stmt} {sts : List Stmt} {p1 p2 : Pos} {hs : List ExceptHandler} {qs : List Clause}
      (slot : X.N[i]? = some m) (loc : X.env.kindOf m = some .local) (nm : Names X y c)
      (su : ∀ (e : Addr) (oe : Obj) (C : Value) (d : Option Addr) (pn : List (Addr × Obj)), Zc C d oe → (∃ vs, oe.data = .fields vs) → PSs (X.suite e ((e, oe) :: pn)) (st :: sts) (f e C d))
      (more : NamedOk X hs qs) : NamedOk X (.ExceptHandler (some (.Name y p1)) (some m) (st :: sts) p2 :: hs) (⟨c, i, f⟩ :: qs)
theorem ps_try_named {X : Cx} {body : List Stmt} {h1 : ExceptHandler} {hs : List ExceptHandler} {qs : List Clause} {pos : Pos} {tb : WX → TS} {W0 : WX}
    (stk : X.stack = X.env :: X.outer) (frm : X.env.frame = some X.env.locals) (nd : X.N.Nodup) (tk : Takes X W0)
    (inn : ∀ (W : WX) (pn : List (Addr × Obj)) (xe : Value → Shared → Prop), Takes (X.tr pn xe) W → PassesOwn (model X.prog X.w) X.A X.env xe → PSs (X.tr pn xe) body (tb W))
    (cls : NamedOk X (h1 :: hs) qs) : PS X (.Try body (h1 :: hs) [] [] pos) (fun D τ G => tb (wNamed X.K W0 D qs) D τ G) := by
  constructor
  intro pins s σ H D I rd
  have okX := I.ok
  have frames : X.A.frames = some (X.env :: X.outer) := okX.frames.trans (congrArg some stk)
  refine wpAny_Try_except ?_
  refine wpAny_mono ((inn (wNamed X.K W0 D qs) (X.pn ++ pins) (fun e s1 => wpAny (model X.prog X.w) X.A (noteFrame e X.env)
    (fun _ s2 => wpAny (model X.prog X.w) X.A (setFlight e none)
      (fun _ s3 => wpAny (model X.prog X.w) X.A (handleBy e X.env (h1 :: hs)) (SP X pins D) X.xe s3) X.xe s2) X.xe s1) ?caught PassesOwn.looking).run [] s σ H D (I.toTry _) rd) ?through fun _ _ z => z
  case through =>
    intro fl s1 z
    rcases fl with _ | _ | _ | u
    case next =>
      obtain ⟨τ, G, J, g⟩ := z
      exact wpAny_execs_nil ⟨τ, G, J.ofTry okX, g⟩
    case ret =>
      obtain ⟨v, τ, G, J, r, g⟩ := z
      exact ⟨v, τ, G, J.ofTry okX, r, g⟩
    all_goals
      obtain ⟨τ, G, J, g⟩ := z
      exact ⟨τ, G, J.ofTry okX, g⟩
  case caught =>
    rintro u s1 ⟨er, B, sI, pins1, τ, G, C, d, rfl, J0, low, up0, sky, free, os, ag, wish⟩
    have J1 : Inv X pins τ G sI := J0.ofTry okX
    rw [show (X.tr (X.pn ++ pins) _).stack = X.env :: X.outer from stk] at sky
    show wpAny (model X.prog X.w) X.A (noteFrame (.ref er) X.env) _ _ _
    refine Sky.land Zc.steady frames frm sky fun h3 fl3 up3 => ?_
    have up1 := up0.trans up3
    have J3 : Inv X pins τ G { s1 with heap := h3 } := J1.landed low fl3.1 up1 os ag
    obtain ⟨oe, vs, er3, kind3, data3⟩ := fl3.there
    -- the error is no frame of a def that runs
    have noFrame : er ∉ frs (X.env :: X.outer) := fun hm => by
      obtain ⟨_, o2, e2, no⟩ := fl3.2.2.1.mem hm
      cases er3.symm.trans e2
      exact no _ data3
    have notLoc : er ≠ X.env.locals := fun z => noFrame (List.mem_filterMap.mpr ⟨X.env, .head _, frm.trans (congrArg some z.symm)⟩)
    have notFs : er ∉ X.fs := fun hm => by
      obtain ⟨en, hen, q⟩ := List.mem_filterMap.mp hm
      exact noFrame (List.mem_filterMap.mpr ⟨en, .tail _ hen, q⟩)
    have S3 := J3.suite er3 data3 free notLoc notFs
    have look : PySem.W.Looks (model X.prog X.w) h3 (typeOf (.ref er)) C := fun A Q E s k q => wpAny_typeOf_ref (k _ _ er3) (kind3.1.symm ▸ q)
    clear rd
    generalize h1 :: hs = all at cls
    induction cls with
    | nil =>
      refine wpAny_handleBy_nil ?_
      obtain ⟨_, _, _, o2, v2, T, _, _, e2, _, d2, f2, _⟩ := id fl3
      unfold PySem.passOn
      refine wpAny_bind (wpAny_field e2 d2 f2 ?_)
      rw [if_neg (by simp : ¬ ((Value.ref T == Value.none) = true))]
      have out : wpAny (model X.prog X.w) X.A (setFlight (.ref er) X.env.frame)
          (fun _ s4 => wpAny (model X.prog X.w) X.A (throw (.ref er) : Sem Flow) (SP X pins D) X.xe s4) X.xe { s1 with heap := h3 } := by
        rw [frm]
        refine HandSPX.setFlight_upZ fl3 fun h4 fl4 up4 => wpAny_throw (tk _ _ ?_)
        refine ⟨er, B, sI, pins, τ, G, C, d, rfl, J1, low, up1.trans up4, ?_, free, os, ag, wish⟩
        exact .inr (.inr (by rw [stk]; exact fl4))
      first
        | exact wpAny_bind (wpAny_pure (wpAny_bind out))
        | exact wpAny_bind out
    | @cons y m c i f st sts p1 p2 hs2 qs2 slot loc nm su more ih =>
      obtain ⟨b, fits, yes, no⟩ := wish
      refine wpAny_handleBy_cons (codeAny_handlers_test ?_) (by intro q; cases q)
      have there : ∀ {Q E : Value → Shared → Prop}, Q c { s1 with heap := h3 } → wpAny (model X.prog X.w) (X.A.mark (some (.ref er))) (eval (.Name y p1) X.env) Q E { s1 with heap := h3 } := by
        intro Q E q
        rcases nm with ⟨g, dbg, hm | ⟨hm, hv, nn⟩⟩
        · exact ld_glob (X := X.suite er ((er, oe) :: (X.pn ++ pins))) S3 g hm q dbg
        · exact ld_blt (X := X.suite er ((er, oe) :: (X.pn ++ pins))) S3 g hm hv q nn dbg
      refine there ((PySem.W.exm_one (M := model X.prog X.w) J3.kIn look fits).here ?_)
      rcases b with _ | _
      · show wpAny _ X.A (handleBy (.ref er) X.env hs2) _ _ _
        exact ih (no rfl)
      · refine codeAny_handlers_suite_as ?_
        refine HandSPX.lands_againZ fl3 fun h4 fl4 up4 => ?_
        have J4 : Inv X pins τ G { s1 with heap := h4 } := J1.landed low fl4.1 (up1.trans up4) os ag
        obtain ⟨o4, v4, er4, kind4, data4⟩ := fl4.there
        refine store_ok (X := X.suite er ((er, o4) :: (X.pn ++ pins))) (v := .ref er) (J4.suite er4 data4 free notLoc notFs) nd slot (.inl loc) rfl (fun s5 S5 => ?_) (.inr loc)
        refine wpAny_mono ((su er o4 C d (X.pn ++ pins) kind4 ⟨_, data4⟩).run [] s5 _ G _ S5 (yes rfl er free)) ?_ fun _ _ z => z.elim
        intro fw s6 z
        have gone : ∀ {τ6 : L2.St} {G6 : Hp} {R : Shared → Prop}, Inv (X.suite er ((er, o4) :: (X.pn ++ pins))) [] τ6 G6 s6 → (∀ s7, Inv X pins (τ6.set i none) G6 s7 → R s7) →
            wpAny (model X.prog X.w) X.A (do bindName X.env m .none; unbindBehindTheSuite X.env m p2) (fun _ s7 => R s7) X.xe s6 := fun S6 k => gone_ok (S6.unsuite okX) nd slot loc k
        rcases fw with _ | _ | _ | u6
        case next =>
          obtain ⟨τ6, G6, S6, q6⟩ := z
          exact gone S6 fun s7 J7 => ⟨_, _, J7, q6⟩
        case ret =>
          obtain ⟨v6, τ6, G6, S6, r6, q6⟩ := z
          exact gone S6 fun s7 J7 => ⟨_, _, _, J7, r6, q6⟩
        all_goals
          obtain ⟨τ6, G6, S6, q6⟩ := z
          exact gone S6 fun s7 J7 => ⟨_, _, J7, q6⟩

/-! ### values of any kind: atoms, lists, tuples -/
inductive GT where
  | non
  | bl (b : Bool)
  | int (i : Int)
  | str (s : Str)
  | lst (ts : List GT)
  | tup (ts : List GT)
mutual
inductive GR (K : PySem.W.Frag) (H : Hp) : V → GT → Prop where
  | non : GR K H .non .non
  | bl (b : Bool) : GR K H (.bl b) (.bl b)
  | int (i : Int) : GR K H (.int i) (.int i)
  | str (s : Str) : GR K H (.str s) (.str s)
  | lst {a : Addr} {xs : List V} {ts : List GT} (h : SqL K H a xs) (r : GRs K H xs ts) : GR K H (.ref a) (.lst ts)
  | tup {a : Addr} {xs : List V} {ts : List GT} (h : SqT K H a xs) (r : GRs K H xs ts) : GR K H (.ref a) (.tup ts)
inductive GRs (K : PySem.W.Frag) (H : Hp) : List V → List GT → Prop where
  | nil : GRs K H [] []
  | cons {x : V} {t : GT} {xs : List V} {ts : List GT} (h : GR K H x t) (r : GRs K H xs ts) : GRs K H (x :: xs) (t :: ts)
end
section
variable {K : PySem.W.Frag} {H H' : Hp}
theorem GR.same {x : V} {t : GT} (h : GR K H x t) (e : Same H H') : GR K H' x t :=
  h.rec (motive_1 := fun x t _ => GR K H' x t) (motive_2 := fun xs ts _ => GRs K H' xs ts) .non .bl .int .str (fun h _ ih => .lst (e.seq h) ih) (fun h _ ih => .tup (same_tup e h) ih) .nil (fun _ _ a b => .cons a b)
theorem GRs.same {xs : List V} {ts : List GT} (h : GRs K H xs ts) (e : Same H H') : GRs K H' xs ts :=
  h.rec (motive_1 := fun x t _ => GR K H' x t) (motive_2 := fun xs ts _ => GRs K H' xs ts) .non .bl .int .str (fun h _ ih => .lst (e.seq h) ih) (fun h _ ih => .tup (same_tup e h) ih) .nil (fun _ _ a b => .cons a b)
theorem GRs.len {xs : List V} {ts : List GT} (h : GRs K H xs ts) : xs.length = ts.length :=
  h.rec (motive_1 := fun _ _ _ => True) (motive_2 := fun xs ts _ => xs.length = ts.length) trivial (fun _ => trivial) (fun _ => trivial) (fun _ => trivial) (fun _ _ _ => trivial) (fun _ _ _ => trivial) rfl (fun _ _ _ b => congrArg (· + 1) b)
theorem GRs.app {xs ys : List V} {ts us : List GT} (h : GRs K H xs ts) (g : GRs K H ys us) : GRs K H (xs ++ ys) (ts ++ us) :=
  h.rec (motive_1 := fun _ _ _ => True) (motive_2 := fun xs ts _ => GRs K H (xs ++ ys) (ts ++ us)) trivial (fun _ => trivial) (fun _ => trivial) (fun _ => trivial) (fun _ _ _ => trivial) (fun _ _ _ => trivial) g (fun a _ _ b => .cons a b)
theorem GRs.split : ∀ {ts us : List GT} {vs : List V}, GRs K H vs (ts ++ us) → ∃ a b, vs = a ++ b ∧ GRs K H a ts ∧ GRs K H b us
  | [], us, vs, h => ⟨[], vs, rfl, .nil, h⟩
  | t :: ts, us, _, .cons h r => by
    obtain ⟨a, b, e, ha, hb⟩ := GRs.split r
    exact ⟨_ :: a, b, by rw [e]; rfl, .cons h ha, hb⟩
theorem GRs.two {x y : GT} {ts : List GT} {vs : List V} (h : GRs K H vs (x :: y :: ts)) : ∃ vx vy vr, vs = vx :: vy :: vr ∧ GR K H vx x ∧ GR K H vy y ∧ GRs K H vr ts := by
  cases h with
  | cons a b =>
    cases b with
    | cons c d => exact ⟨_, _, _, rfl, a, c, d⟩
theorem GRs.get {xs : List V} {ts : List GT} : ∀ {i : Nat} {x : V}, GRs K H xs ts → xs[i]? = some x → ∃ t, ts[i]? = some t ∧ GR K H x t
  | 0, x, .cons h _, e => ⟨_, rfl, Option.some.inj e ▸ h⟩
  | i + 1, x, .cons _ r, e => GRs.get (i := i) r e
theorem GRs.set {xs : List V} {ts : List GT} {x : V} {t : GT} : ∀ {i : Nat}, GRs K H xs ts → GR K H x t → GRs K H (xs.set i x) (ts.set i t)
  | _, .nil, _ => .nil
  | 0, .cons _ r, g => .cons g r
  | i + 1, .cons h r, g => .cons h (GRs.set (i := i) r g)
theorem GRs.snoc {xs : List V} {ts : List GT} {t : GT} (h : GRs K H xs (ts ++ [t])) : ∃ ys y, xs = ys ++ [y] ∧ GRs K H ys ts ∧ GR K H y t := by
  obtain ⟨a, b, e, ha, hb⟩ := h.split
  cases hb with
  | cons h r =>
    cases r
    exact ⟨a, _, e, ha, h⟩
end
mutual
def GT.sz : GT → Nat
  | .lst ts => szs ts + 1
  | .tup ts => szs ts + 1
  | _ => 1
def szs : List GT → Nat
  | [] => 0
  | t :: r => t.sz + szs r
end
theorem szs_app : ∀ a b : List GT, szs (a ++ b) = szs a + szs b
  | [], b => (Nat.zero_add _).symm
  | t :: r, b => by
    rw [List.cons_append, szs, szs, szs_app r b]
    omega

theorem GR.knd {K : PySem.W.Frag} {H : Hp} {x : V} {t : GT} (h : GR K H x t) : Knd K H x := by
  cases h with
  | non => exact .non
  | bl b => exact .bl b
  | int i => exact .int i
  | str s => exact .str s
  | lst h r => exact .lst h
  | tup h r => exact .tup h

/-! ### trees that join by words -/
inductive Wd where
  | a
  | o
  | l
def Wd.s : Wd → Str
  | .a => "and"
  | .o => "or"
  | .l => "less"
def jB : Wd → Bool → Bool → Bool
  | .a, t, u => t && u
  | .o, t, u => t || u
  | .l, t, u => t && !u
def jM : Wd → Int → Int → Int
  | .a, x, y => if y < x then y else x
  | .o, x, y => if y > x then y else x
  | .l, x, y => if 2 - y < x then 2 - y else x
inductive JT where
  | leaf (i : Nat)
  | nd (w : Wd) (l r : JT)
def JT.dep : JT → Nat
  | .leaf _ => 1
  | .nd _ l r => max l.dep r.dep + 1
def JT.lvs : JT → List Nat
  | .leaf i => [i]
  | .nd _ l r => l.lvs ++ r.lvs
def evB (b : Nat → Bool) : JT → Bool
  | .leaf i => b i
  | .nd w l r => jB w (evB b l) (evB b r)
def evM (m : Nat → Int) : JT → Int
  | .leaf i => m i
  | .nd w l r => jM w (evM m l) (evM m r)
def evV (J : Wd → V → V → V) (us : List V) : JT → V
  | .leaf i => us.getD i .non
  | .nd w l r => J w (evV J us l) (evV J us r)
def vB : Wd → V → V → V
  | w, .bl t, .bl u => .bl (jB w t u)
  | _, _, _ => .non
def vM : Wd → V → V → V
  | w, .int t, .int u => .int (jM w t u)
  | _, _, _ => .non
theorem evV_B {bs : List Bool} : ∀ {t : JT}, (∀ i ∈ t.lvs, i < bs.length) → evV vB (bs.map V.bl) t = .bl (evB (fun i => bs.getD i false) t)
  | .leaf i, h => by
    have := h i (by simp [JT.lvs])
    simp [evV, evB, List.getD_eq_getElem?_getD, this]
  | .nd w l r, h => by
    have hl := evV_B (t := l) (bs := bs) fun i hi => h i (by simp [JT.lvs, hi])
    have hr := evV_B (t := r) (bs := bs) fun i hi => h i (by simp [JT.lvs, hi])
    rw [evV, hl, hr]
    rfl
theorem evV_M {ms : List Int} : ∀ {t : JT}, (∀ i ∈ t.lvs, i < ms.length) → evV vM (ms.map V.int) t = .int (evM (fun i => ms.getD i 0) t)
  | .leaf i, h => by
    have := h i (by simp [JT.lvs])
    simp [evV, evM, List.getD_eq_getElem?_getD, this]
  | .nd w l r, h => by
    have hl := evV_M (t := l) (ms := ms) fun i hi => h i (by simp [JT.lvs, hi])
    have hr := evV_M (t := r) (ms := ms) fun i hi => h i (by simp [JT.lvs, hi])
    rw [evV, hl, hr]
    rfl
theorem lvs_pos : ∀ t : JT, 1 ≤ t.lvs.length
  | .leaf _ => Nat.le_refl _
  | .nd _ l r => by
    have := lvs_pos l
    simp [JT.lvs]
    omega
theorem dep_le : ∀ t : JT, t.dep ≤ t.lvs.length
  | .leaf _ => Nat.le_refl _
  | .nd _ l r => by
    have h1 := dep_le l
    have h2 := dep_le r
    have h3 := lvs_pos l
    have h4 := lvs_pos r
    simp [JT.lvs, JT.dep]
    omega
/-- what stands for a tree -/
inductive JR (K : PySem.W.Frag) (H : Hp) : V → JT → Prop where
  | leaf (i : Nat) : JR K H (.int i) (.leaf i)
  | nd {a : Addr} {vl vr : V} {w : Wd} {l r : JT} (h : SqT K H a [.str w.s, vl, vr]) (hl : JR K H vl l) (hr : JR K H vr r) : JR K H (.ref a) (.nd w l r)
theorem JR.same {K : PySem.W.Frag} {H H' : Hp} {v : V} {t : JT} (h : JR K H v t) (e : Same H H') : JR K H' v t := by
  induction h with
  | leaf i => exact .leaf i
  | nd h _ _ i1 i2 => exact .nd (same_tup e h) i1 i2
inductive JRs (K : PySem.W.Frag) (H : Hp) : List V → List JT → Prop where
  | nil : JRs K H [] []
  | cons {v : V} {t : JT} {vs : List V} {ts : List JT} (h : JR K H v t) (r : JRs K H vs ts) : JRs K H (v :: vs) (t :: ts)
section
variable {K : PySem.W.Frag} {H H' : Hp}
theorem JRs.same {vs : List V} {ts : List JT} (h : JRs K H vs ts) (e : Same H H') : JRs K H' vs ts := by
  induction h with
  | nil => exact .nil
  | cons h _ ih => exact .cons (h.same e) ih
theorem JRs.len {vs : List V} {ts : List JT} (h : JRs K H vs ts) : vs.length = ts.length := by
  induction h with
  | nil => rfl
  | cons h _ ih => exact congrArg (· + 1) ih
theorem JRs.app {vs ws : List V} {ts us : List JT} (h : JRs K H vs ts) (g : JRs K H ws us) : JRs K H (vs ++ ws) (ts ++ us) := by
  induction h with
  | nil => exact g
  | cons h _ ih => exact .cons h ih
theorem JRs.split : ∀ {ts us : List JT} {vs : List V}, JRs K H vs (ts ++ us) → ∃ a b, vs = a ++ b ∧ JRs K H a ts ∧ JRs K H b us
  | [], us, vs, h => ⟨[], vs, rfl, .nil, h⟩
  | t :: ts, us, _, .cons h r => by
    obtain ⟨a, b, e, ha, hb⟩ := JRs.split r
    exact ⟨_ :: a, b, by rw [e]; rfl, .cons h ha, hb⟩
theorem JRs.two {x y : JT} {ts : List JT} {vs : List V} (h : JRs K H vs (x :: y :: ts)) : ∃ vx vy vr, vs = vx :: vy :: vr ∧ JR K H vx x ∧ JR K H vy y ∧ JRs K H vr ts := by
  cases h with
  | cons a b =>
    cases b with
    | cons c d => exact ⟨_, _, _, rfl, a, c, d⟩
theorem JRs.leaves : ∀ ls : List Nat, JRs K H (ls.map fun i => V.int (i : Nat)) (ls.map .leaf)
  | [] => .nil
  | i :: r => .cons (.leaf i) (JRs.leaves r)
end
/-! two neighbours are joined, again and again -/
section
variable {α β : Type}
def mrg1 (f : Wd → α → α → α) (xs : List α) (s : Nat × Wd) : List α := match xs.drop s.1 with
  | x :: y :: r => xs.take s.1 ++ f s.2 x y :: r
  | _ => xs
def mrgs (f : Wd → α → α → α) (xs : List α) (ms : List (Nat × Wd)) : List α := ms.foldl (mrg1 f) xs
theorem mrg1_eq (f : Wd → α → α → α) (us r : List α) (x y : α) (w : Wd) : mrg1 f (us ++ x :: y :: r) (us.length, w) = us ++ f w x y :: r := by
  unfold mrg1
  simp
theorem split2 {xs : List α} {k : Nat} (h : k + 1 < xs.length) : ∃ us x y r, xs = us ++ x :: y :: r ∧ us.length = k := by
  refine ⟨xs.take k, xs[k], xs[k + 1], xs.drop (k + 2), ?_, by rw [List.length_take]; omega⟩
  rw [← List.drop_eq_getElem_cons h, ← List.drop_eq_getElem_cons (by omega), List.take_append_drop]
theorem mrg1_map {f : Wd → α → α → α} {f' : Wd → β → β → β} (g : α → β) (hom : ∀ w x y, g (f w x y) = f' w (g x) (g y)) (xs : List α) (s : Nat × Wd) : (mrg1 f xs s).map g = mrg1 f' (xs.map g) s := by
  unfold mrg1
  rw [← List.map_drop, ← List.map_take]
  rcases xs.drop s.1 with _ | ⟨x, _ | ⟨y, r⟩⟩
  · rfl
  · rfl
  · simp [hom]
theorem mrgs_map {f : Wd → α → α → α} {f' : Wd → β → β → β} (g : α → β) (hom : ∀ w x y, g (f w x y) = f' w (g x) (g y)) : ∀ (ms : List (Nat × Wd)) (xs : List α), (mrgs f xs ms).map g = mrgs f' (xs.map g) ms
  | [], _ => rfl
  | s :: ms, xs => by
    show (mrgs f (mrg1 f xs s) ms).map g = mrgs f' (mrg1 f' (xs.map g) s) ms
    rw [mrgs_map g hom ms, mrg1_map g hom]
theorem mrgs_succ {f : Wd → α → α → α} {xs : List α} {ms : List (Nat × Wd)} {i : Nat} {s : Nat × Wd} (h : ms[i]? = some s) : mrgs f xs (ms.take (i + 1)) = mrg1 f (mrgs f xs (ms.take i)) s := by
  rw [List.take_add_one, h]
  unfold mrgs
  rw [List.foldl_append]
  rfl
/-- each step finds its two neighbours -/
structure GoodM (n : Nat) (ms : List (Nat × Wd)) : Prop where
  len : ms.length + 1 = n
  at_ : ∀ i s, ms[i]? = some s → s.1 + 1 + i < n
theorem mrgs_len {f : Wd → α → α → α} {xs : List α} {ms : List (Nat × Wd)} (g : ∀ i s, ms[i]? = some s → s.1 + 1 + i < xs.length) : ∀ i, i ≤ ms.length → (mrgs f xs (ms.take i)).length + i = xs.length
  | 0, _ => rfl
  | i + 1, h => by
    have hi : ms[i]? = some ms[i] := List.getElem?_eq_getElem (by omega)
    have ih := mrgs_len (f := f) g i (by omega)
    rw [mrgs_succ hi]
    have hg := g i _ hi
    generalize mrgs f xs (ms.take i) = zs at ih ⊢
    generalize ms[i] = s at hg
    obtain ⟨k, w⟩ := s
    obtain ⟨us, x, y, r, e, hk⟩ := split2 (xs := zs) (k := k) (by dsimp only at hg; omega)
    subst hk
    rw [e] at ih ⊢
    rw [mrg1_eq]
    simp at ih ⊢
    omega
theorem mrgs_one {f : Wd → α → α → α} {xs : List α} {ms : List (Nat × Wd)} (g : GoodM xs.length ms) : ∃ z, mrgs f xs ms = [z] := by
  have h := mrgs_len (f := f) g.at_ ms.length (Nat.le_refl _)
  rw [List.take_length] at h
  have := g.len
  exact List.length_eq_one_iff.mp (by omega)
theorem flat1 (xs : List (List α)) (s : Nat × Wd) : (mrg1 (fun _ x y => x ++ y) xs s).flatten = xs.flatten := by
  by_cases h : s.1 + 1 < xs.length
  · obtain ⟨k, w⟩ := s
    obtain ⟨us, x, y, r, rfl, rfl⟩ := split2 h
    rw [mrg1_eq]
    simp
  · unfold mrg1
    rcases e : xs.drop s.1 with _ | ⟨x, _ | ⟨y, r⟩⟩
    · rfl
    · rfl
    · have : (xs.drop s.1).length = r.length + 2 := by rw [e]; rfl
      rw [List.length_drop] at this
      omega
theorem flats : ∀ (ms : List (Nat × Wd)) (xs : List (List α)), (mrgs (fun _ x y => x ++ y) xs ms).flatten = xs.flatten
  | [], _ => rfl
  | s :: ms, xs => by
    show (mrgs (fun _ x y => x ++ y) (mrg1 (fun _ x y => x ++ y) xs s) ms).flatten = xs.flatten
    rw [flats ms, flat1]
end
theorem leafs : ∀ ls : List Nat, (ls.map (JT.lvs ∘ JT.leaf)).flatten = ls
  | [] => rfl
  | i :: r => by
    rw [List.map_cons, List.flatten_cons, leafs r]
    rfl
theorem mrgs_lvs {ls : List Nat} {ms : List (Nat × Wd)} {t : JT} (h : mrgs JT.nd (ls.map .leaf) ms = [t]) : t.lvs = ls := by
  have e := mrgs_map (f := JT.nd) (f' := fun _ x y => x ++ y) JT.lvs (fun _ _ _ => rfl) ms (ls.map .leaf)
  rw [h] at e
  have q := congrArg List.flatten e
  rw [flats, List.map_map] at q
  have q2 : t.lvs = (ls.map (JT.lvs ∘ JT.leaf)).flatten := by simpa using q
  rw [q2, leafs]
theorem mrgs_evM {ls : List Nat} {ms : List (Nat × Wd)} {t : JT} (m : Nat → Int) (h : mrgs JT.nd (ls.map .leaf) ms = [t]) : mrgs jM (ls.map m) ms = [evM m t] := by
  have e := mrgs_map (f := JT.nd) (f' := jM) (evM m) (fun _ _ _ => rfl) ms (ls.map .leaf)
  rw [h, List.map_map] at e
  exact e.symm
/-! what agrees with marks -/
def ag1 (v : Bool) (m : Int) : Bool := decide (m = 1) || (v == decide (m = 2))
theorem jag {w : Wd} {a b : Int} {v u : Bool} (ha : 0 ≤ a ∧ a ≤ 2) (hb : 0 ≤ b ∧ b ≤ 2) (h1 : ag1 v a = true) (h2 : ag1 u b = true) : (0 ≤ jM w a b ∧ jM w a b ≤ 2) ∧ ag1 (jB w v u) (jM w a b) = true := by
  have h3 : a = 0 ∨ a = 1 ∨ a = 2 := by omega
  have h4 : b = 0 ∨ b = 1 ∨ b = 2 := by omega
  rcases h3 with rfl | rfl | rfl <;> rcases h4 with rfl | rfl | rfl <;> cases w <;> cases v <;> cases u <;> first | (revert h1; decide) | (revert h2; decide) | decide
theorem jex {w : Wd} {a b : Int} {v : Bool} (ha : 0 ≤ a ∧ a ≤ 2) (hb : 0 ≤ b ∧ b ≤ 2) (h : ag1 v (jM w a b) = true) : ∃ t u, ag1 t a = true ∧ ag1 u b = true ∧ jB w t u = v := by
  have h3 : a = 0 ∨ a = 1 ∨ a = 2 := by omega
  have h4 : b = 0 ∨ b = 1 ∨ b = 2 := by omega
  rcases h3 with rfl | rfl | rfl <;> rcases h4 with rfl | rfl | rfl <;> cases w <;> cases v <;> first | (revert h; decide) | exact ⟨true, true, by decide, by decide, by decide⟩ | exact ⟨true, false, by decide, by decide, by decide⟩ | exact ⟨false, true, by decide, by decide, by decide⟩ | exact ⟨false, false, by decide, by decide, by decide⟩
theorem ev_ag {b : Nat → Bool} {m : Nat → Int} : ∀ {t : JT}, (∀ i ∈ t.lvs, (0 ≤ m i ∧ m i ≤ 2) ∧ ag1 (b i) (m i) = true) → (0 ≤ evM m t ∧ evM m t ≤ 2) ∧ ag1 (evB b t) (evM m t) = true
  | .leaf i, h => h i (by simp [JT.lvs])
  | .nd w l r, h => by
    obtain ⟨h1, h2⟩ := ev_ag (t := l) (b := b) (m := m) fun i hi => h i (by simp [JT.lvs, hi])
    obtain ⟨h3, h4⟩ := ev_ag (t := r) (b := b) (m := m) fun i hi => h i (by simp [JT.lvs, hi])
    exact jag h1 h3 h2 h4
theorem evB_ext {b c : Nat → Bool} : ∀ {t : JT}, (∀ i ∈ t.lvs, b i = c i) → evB b t = evB c t
  | .leaf i, h => h i (by simp [JT.lvs])
  | .nd w l r, h => by
    have h1 := evB_ext (t := l) (b := b) (c := c) fun i hi => h i (by simp [JT.lvs, hi])
    have h2 := evB_ext (t := r) (b := b) (c := c) fun i hi => h i (by simp [JT.lvs, hi])
    rw [evB, evB, h1, h2]
theorem ag_any {m : Int} (h : 0 ≤ m ∧ m ≤ 2) : ag1 (decide (m = 2)) m = true := by
  unfold ag1
  simp
theorem ev_ex {m : Nat → Int} (hm : ∀ i, 0 ≤ m i ∧ m i ≤ 2) : ∀ {t : JT} {v : Bool}, t.lvs.Nodup → ag1 v (evM m t) = true → ∃ b : Nat → Bool, (∀ i, ag1 (b i) (m i) = true) ∧ evB b t = v
  | .leaf i, v, _, h => by
    refine ⟨fun j => if j = i then v else decide (m j = 2), fun j => ?_, by simp [evB]⟩
    by_cases e : j = i
    · subst e
      simp only [if_true]
      exact h
    · simp only [e, if_false]
      exact ag_any (hm j)
  | .nd w l r, v, hn, h => by
    have h1 := (ev_ag (t := l) (m := m) (b := fun j => decide (m j = 2)) fun i _ => ⟨hm i, ag_any (hm i)⟩).1
    have h2 := (ev_ag (t := r) (m := m) (b := fun j => decide (m j = 2)) fun i _ => ⟨hm i, ag_any (hm i)⟩).1
    obtain ⟨t, u, a1, a2, e⟩ := jex h1 h2 h
    obtain ⟨n1, n2, n3⟩ := List.nodup_append.mp (show (l.lvs ++ r.lvs).Nodup from hn)
    obtain ⟨bl, p1, q1⟩ := ev_ex hm n1 a1
    obtain ⟨br, p2, q2⟩ := ev_ex hm n2 a2
    refine ⟨fun j => if j ∈ l.lvs then bl j else br j, fun j => ?_, ?_⟩
    · by_cases z : j ∈ l.lvs
      · simp only [z, if_true]
        exact p1 j
      · simp only [z, if_false]
        exact p2 j
    · rw [evB, evB_ext (c := bl) (t := l) (fun i hi => by simp only [hi, if_true]), evB_ext (c := br) (t := r) (fun i hi => by
        have z : i ∉ l.lvs := fun z => n3 i z i hi rfl
        simp only [z, if_false]), q1, q2]
      exact e
def p2 : Nat → Int
  | 0 => 1
  | 1 => 2
  | 2 => 4
  | _ => 8
def bitN (n : Int) (k : Nat) : Bool := decide (n / p2 k % 2 = 1)
def trs (c : Nat) (n : Int) : List Bool := (List.range c).map (bitN n)
theorem enc {c : Nat} (hc : c ≤ 4) (b : Nat → Bool) : ∃ n : Nat, n < 2 ^ c ∧ ∀ k, k < c → bitN (0 + (n : Int)) k = b k := by
  have hc5 : c = 0 ∨ c = 1 ∨ c = 2 ∨ c = 3 ∨ c = 4 := by omega
  rcases hc5 with rfl | rfl | rfl | rfl | rfl
  · exact ⟨0, by decide, fun k hk => absurd hk (Nat.not_lt_zero _)⟩
  · refine ⟨(b 0).toNat, ?_, fun k hk => ?_⟩
    · cases b 0 <;> decide
    · have : k = 0 := by omega
      subst this
      cases b 0 <;> decide
  · refine ⟨(b 0).toNat + 2 * (b 1).toNat, ?_, fun k hk => ?_⟩
    · cases b 0 <;> cases b 1 <;> decide
    · have : k = 0 ∨ k = 1 := by omega
      rcases this with rfl | rfl <;> cases b 0 <;> cases b 1 <;> decide
  · refine ⟨(b 0).toNat + 2 * (b 1).toNat + 4 * (b 2).toNat, ?_, fun k hk => ?_⟩
    · cases b 0 <;> cases b 1 <;> cases b 2 <;> decide
    · have : k = 0 ∨ k = 1 ∨ k = 2 := by omega
      rcases this with rfl | rfl | rfl <;> cases b 0 <;> cases b 1 <;> cases b 2 <;> decide
  · refine ⟨(b 0).toNat + 2 * (b 1).toNat + 4 * (b 2).toNat + 8 * (b 3).toNat, ?_, fun k hk => ?_⟩
    · cases b 0 <;> cases b 1 <;> cases b 2 <;> cases b 3 <;> decide
    · have : k = 0 ∨ k = 1 ∨ k = 2 ∨ k = 3 := by omega
      rcases this with rfl | rfl | rfl | rfl <;> cases b 0 <;> cases b 1 <;> cases b 2 <;> cases b 3 <;> decide
theorem JR.tp {K : PySem.W.Frag} {H H' : Hp} {v : V} {t : JT} (h : JR K H v t) (e : Tp H H') : JR K H' v t := by
  induction h with
  | leaf i => exact .leaf i
  | nd h _ _ i1 i2 => exact .nd (e.tup h) i1 i2
def b2 (b : Bool) : Int := if b then 1 else 0
theorem evM_two {b : Nat → Bool} : ∀ t : JT, evM (fun i => 2 * b2 (b i)) t = 2 * b2 (evB b t)
  | .leaf i => rfl
  | .nd w l r => by
    rw [evM, evB, evM_two l, evM_two r]
    cases w <;> cases evB b l <;> cases evB b r <;> decide
theorem evM_ext {b c : Nat → Int} : ∀ {t : JT}, (∀ i ∈ t.lvs, b i = c i) → evM b t = evM c t
  | .leaf i, h => h i (by simp [JT.lvs])
  | .nd w l r, h => by
    have h1 := evM_ext (t := l) (b := b) (c := c) fun i hi => h i (by simp [JT.lvs, hi])
    have h2 := evM_ext (t := r) (b := b) (c := c) fun i hi => h i (by simp [JT.lvs, hi])
    rw [evM, evM, h1, h2]
theorem two_eq (b : Bool) : decide (2 * b2 b = 2) = b := by cases b <;> decide
theorem pows {c : Int} (h0 : 1 ≤ c) (h1 : c ≤ 4) : atI [V.int 1, .int 2, .int 4, .int 8, .int 16] c = some (.int ((2 ^ c.toNat : Nat) : Int)) := by
  have : c = 1 ∨ c = 2 ∨ c = 3 ∨ c = 4 := by omega
  rcases this with rfl | rfl | rfl | rfl <;> rfl
theorem p2_at {k : Nat} (h : k < 4) : atI [V.int 1, .int 2, .int 4, .int 8] (0 + (k : Int)) = some (.int (p2 k)) := by
  have : k = 0 ∨ k = 1 ∨ k = 2 ∨ k = 3 := by omega
  rcases this with rfl | rfl | rfl | rfl <;> rfl
theorem p2_pos (k : Nat) : 0 < p2 k ∧ p2 k ≤ 8 := by
  rcases k with _ | _ | _ | k <;> simp [p2]

/-! ### the law's twigs -/
def nts (ls : List Nat) : List V := ls.map fun i => V.int (i : Nat)
theorem nts_snoc (ls : List Nat) (z : Int) (h : 0 ≤ z) : nts ls ++ [.int z] = nts (ls ++ [z.toNat]) := by
  unfold nts
  rw [List.map_append, List.map_singleton, Int.toNat_of_nonneg h]
theorem nts_len (ls : List Nat) : (nts ls).length = ls.length := List.length_map ..
theorem wd_at {d : Int} (h0 : 0 ≤ d) (h1 : d < 3) : ∃ w : Wd, atI [V.str "and", .str "or", .str "less"] d = some (.str w.s) := by
  have : d = 0 ∨ d = 1 ∨ d = 2 := by omega
  rcases this with rfl | rfl | rfl
  · exact ⟨.a, rfl⟩
  · exact ⟨.o, rfl⟩
  · exact ⟨.l, rfl⟩
inductive MRs (H : Hp) : List V → List (Nat × Wd) → Prop where
  | nil : MRs H [] []
  | cons {a : Addr} {k : Nat} {w : Wd} {us : List V} {ms : List (Nat × Wd)} (h : H a = some (.lst [.int (k : Nat), .str w.s])) (r : MRs H us ms) : MRs H (.ref a :: us) ((k, w) :: ms)
section
variable {H H' : Hp}
theorem MRs.same {us : List V} {ms : List (Nat × Wd)} (h : MRs H us ms) (e : Same H H') : MRs H' us ms := by
  induction h with
  | nil => exact .nil
  | cons h _ ih => exact .cons (e _ _ h) ih
theorem MRs.len {us : List V} {ms : List (Nat × Wd)} (h : MRs H us ms) : us.length = ms.length := by
  induction h with
  | nil => rfl
  | cons h _ ih => exact congrArg (· + 1) ih
theorem MRs.snoc {us : List V} {ms : List (Nat × Wd)} {a : Addr} {k : Nat} {w : Wd} (h : MRs H us ms) (g : H a = some (.lst [.int (k : Nat), .str w.s])) : MRs H (us ++ [.ref a]) (ms ++ [(k, w)]) := by
  induction h with
  | nil => exact .cons g .nil
  | cons h _ ih => exact .cons h ih
theorem MRs.get {us : List V} {ms : List (Nat × Wd)} (h : MRs H us ms) : ∀ {i : Nat} {v : V}, us[i]? = some v → ∃ a k w, v = .ref a ∧ ms[i]? = some (k, w) ∧ H a = some (.lst [.int (k : Nat), .str w.s]) := by
  induction h with
  | nil => exact fun e => nomatch e
  | cons h _ ih =>
    rintro (_ | i) v e
    · exact ⟨_, _, _, (Option.some.inj e).symm, rfl, h⟩
    · exact ih e
end
structure TwR (H : Hp) (p : Addr) (ls : List Nat) (ms : List (Nat × Wd)) : Prop where
  ex : ∃ (lv mg : Addr) (us : List V), H p = some (.lst [.ref lv, .ref mg]) ∧ H lv = some (.lst (nts ls)) ∧ H mg = some (.lst us) ∧ MRs H us ms
theorem TwR.same {H H' : Hp} {p : Addr} {ls : List Nat} {ms : List (Nat × Wd)} (h : TwR H p ls ms) (e : Same H H') : TwR H' p ls ms := by
  obtain ⟨lv, mg, us, a, b, c, d⟩ := h.ex
  exact ⟨lv, mg, us, e _ _ a, e _ _ b, e _ _ c, d.same e⟩
def GoodP (n : Nat) (ms : List (Nat × Wd)) : Prop := ∀ (j : Nat) (s : Nat × Wd), ms[j]? = some s → s.1 + 1 + j < n
theorem GoodP.snoc {n : Nat} {ms : List (Nat × Wd)} {k : Nat} {w : Wd} (g : GoodP n ms) (h : k + 1 + ms.length < n) : GoodP n (ms ++ [(k, w)]) := fun j s e => by
  by_cases hj : j < ms.length
  · rw [List.getElem?_append_left hj] at e
    exact g j s e
  · rw [List.getElem?_append_right (by omega)] at e
    have : j - ms.length = 0 := by
      have := (List.getElem?_eq_some_iff.mp e).1
      simp at this
      omega
    rw [this] at e
    cases e
    dsimp only
    omega
theorem TwR.split {H : Hp} {p : Addr} {ls : List Nat} {ms : List (Nat × Wd)} (h : TwR H p ls ms) (hl : ls ≠ []) : ∃ (lv mg : Addr) (us : List V), H p = some (.lst [.ref lv, .ref mg]) ∧ H lv = some (.lst (nts ls)) ∧ H mg = some (.lst us) ∧ MRs (Aw lv H) us ms ∧ p ≠ lv ∧ mg ≠ lv := by
  obtain ⟨lv, mg, us, a, b, c, d⟩ := h.ex
  obtain ⟨i, r, rfl⟩ : ∃ i r, ls = i :: r := by
    cases ls with
    | nil => exact absurd rfl hl
    | cons i r => exact ⟨i, r, rfl⟩
  have e : nts (i :: r) = .int (i : Nat) :: nts r := rfl
  rw [e] at b
  refine ⟨lv, mg, us, a, by rw [e]; exact b, c, ?_, fun z => ?_, fun z => ?_⟩
  · clear c h
    induction d with
    | nil => exact .nil
    | cons h r2 ih =>
      refine .cons (Aw.of h fun z => ?_) ih
      subst z
      rw [h] at b
      have q := (List.cons.inj (HO.lst.inj (Option.some.inj b))).2
      cases r <;> cases q
  · subst z
    rw [a] at b
    cases (List.cons.inj (HO.lst.inj (Option.some.inj b))).1
  · subst z
    rw [c] at b
    cases d with
    | nil => cases b
    | cons h r2 => cases (List.cons.inj (HO.lst.inj (Option.some.inj b))).1

/-! ### values that are trees, or none -/
def good1 (w : Str) : Bool := decide (w = "and" ∨ w = "or" ∨ w = "less")
def isJ : GT → Option (GT × GT)
  | .tup [.str w, l, r] => if good1 w = true then some (l, r) else none
  | _ => none
theorem isJ_eq {g l r : GT} (h : isJ g = some (l, r)) : ∃ w, g = .tup [.str w, l, r] ∧ good1 w = true := by
  unfold isJ at h
  split at h
  · split at h
    · cases h
      exact ⟨_, rfl, by assumption⟩
    · cases h
  · cases h
theorem isJ_lt {g l r : GT} (h : isJ g = some (l, r)) : sizeOf l < sizeOf g ∧ sizeOf r < sizeOf g := by
  obtain ⟨w, rfl, _⟩ := isJ_eq h
  simp
  omega
def cnt (g : GT) : Nat := match h : isJ g with
  | some (l, r) => 1 + cnt l + cnt r
  | none => 1
termination_by sizeOf g
decreasing_by all_goals (have := isJ_lt h; omega)
def leafOk (c : Int) : GT → Bool
  | .int i => decide (0 ≤ i) && decide (i ≤ c - 1)
  | _ => false
def okT (c : Int) (g : GT) : Bool := match h : isJ g with
  | some (l, r) => okT c l && okT c r
  | none => leafOk c g
termination_by sizeOf g
decreasing_by all_goals (have := isJ_lt h; omega)
theorem cnt_J {g l r : GT} (h : isJ g = some (l, r)) : cnt g = 1 + cnt l + cnt r := by
  rw [cnt]
  split
  · rename_i h2
    rw [h] at h2
    cases h2
    rfl
  · rename_i h2
    rw [h] at h2
    cases h2
theorem cnt_N {g : GT} (h : isJ g = none) : cnt g = 1 := by
  rw [cnt]
  split
  · rename_i h2
    rw [h] at h2
    cases h2
  · rfl
theorem okT_J {c : Int} {g l r : GT} (h : isJ g = some (l, r)) : okT c g = (okT c l && okT c r) := by
  rw [okT]
  split
  · rename_i h2
    rw [h] at h2
    cases h2
    rfl
  · rename_i h2
    rw [h] at h2
    cases h2
theorem okT_N {c : Int} {g : GT} (h : isJ g = none) : okT c g = leafOk c g := by
  rw [okT]
  split
  · rename_i h2
    rw [h] at h2
    cases h2
  · rfl
theorem cnt_pos (g : GT) : 1 ≤ cnt g := by
  cases h : isJ g with
  | none => rw [cnt_N h]; exact Nat.le_refl _
  | some p =>
    obtain ⟨l, r⟩ := p
    rw [cnt_J h]
    omega
/-- a tree of at most seven nodes -/
def fine (c : Int) (g : GT) : Bool := okT c g && decide (cnt g ≤ 7)
def gnd (w : Wd) (l r : GT) : GT := .tup [.str w.s, l, r]
theorem isJ_gnd (w : Wd) (l r : GT) : isJ (gnd w l r) = some (l, r) := by
  cases w <;> rfl
/-! what stays when neighbours are joined -/
section
variable {α β : Type}
theorem mrg1_inv {f : Wd → α → α → α} (F : List α → β) (hF : ∀ us x y r w, F (us ++ f w x y :: r) = F (us ++ x :: y :: r)) (xs : List α) (s : Nat × Wd) : F (mrg1 f xs s) = F xs := by
  by_cases h : s.1 + 1 < xs.length
  · obtain ⟨k, w⟩ := s
    obtain ⟨us, x, y, r, rfl, rfl⟩ := split2 h
    rw [mrg1_eq]
    exact hF us x y r w
  · unfold mrg1
    rcases e : xs.drop s.1 with _ | ⟨x, _ | ⟨y, r⟩⟩
    · rfl
    · rfl
    · have : (xs.drop s.1).length = r.length + 2 := by rw [e]; rfl
      rw [List.length_drop] at this
      omega
theorem mrgs_inv {f : Wd → α → α → α} (F : List α → β) (hF : ∀ us x y r w, F (us ++ f w x y :: r) = F (us ++ x :: y :: r)) : ∀ (ms : List (Nat × Wd)) (xs : List α), F (mrgs f xs ms) = F xs
  | [], _ => rfl
  | s :: ms, xs => by
    show F (mrgs f (mrg1 f xs s) ms) = F xs
    rw [mrgs_inv F hF ms, mrg1_inv F hF]
end
theorem grown_ok {c : Int} {gs : List GT} {ms : List (Nat × Wd)} {g : GT} (h : mrgs gnd gs ms = [g]) : okT c g = gs.all (okT c) := by
  have e := mrgs_inv (f := gnd) (fun l => l.all (okT c)) (fun us x y r w => by
    simp only [List.all_append, List.all_cons]
    rw [okT_J (isJ_gnd w x y), Bool.and_assoc]) ms gs
  rw [h] at e
  simpa using e
theorem grown_cnt {gs : List GT} {ms : List (Nat × Wd)} {g : GT} (h : mrgs gnd gs ms = [g]) : cnt g + 1 = (gs.map fun x => cnt x + 1).sum := by
  have e := mrgs_inv (f := gnd) (fun l => (l.map fun x => cnt x + 1).sum) (fun us x y r w => by
    simp only [List.map_append, List.map_cons, List.sum_append, List.sum_cons]
    rw [cnt_J (isJ_gnd w x y)]
    omega) ms gs
  rw [h] at e
  simpa using e
theorem grown_sz {gs : List GT} {ms : List (Nat × Wd)} {g : GT} (h : mrgs gnd gs ms = [g]) : g.sz + 2 = (gs.map fun x => x.sz + 2).sum := by
  have e := mrgs_inv (f := gnd) (fun l => (l.map fun x => x.sz + 2).sum) (fun us x y r w => by
    simp only [List.map_append, List.map_cons, List.sum_append, List.sum_cons]
    have : (gnd w x y).sz = x.sz + y.sz + 2 := by
      unfold gnd
      simp only [GT.sz, szs]
      omega
    rw [this]
    omega) ms gs
  rw [h] at e
  simpa using e
theorem sum_le {α : Type} {f : α → Nat} {b : Nat} : ∀ {l : List α}, (∀ x ∈ l, f x ≤ b) → (l.map f).sum ≤ l.length * b
  | [], _ => by simp
  | x :: l, h => by
    have h1 := h x List.mem_cons_self
    have h2 := sum_le (l := l) fun y hy => h y (List.mem_cons_of_mem _ hy)
    rw [List.map_cons, List.sum_cons, List.length_cons, Nat.succ_mul]
    omega
theorem sum_eq {α : Type} {f : α → Nat} {b : Nat} : ∀ {l : List α}, (∀ x ∈ l, f x = b) → (l.map f).sum = l.length * b
  | [], _ => by simp
  | x :: l, h => by
    have h1 := h x List.mem_cons_self
    have h2 := sum_eq (l := l) fun y hy => h y (List.mem_cons_of_mem _ hy)
    rw [List.map_cons, List.sum_cons, List.length_cons, Nat.succ_mul]
    omega
theorem in_str (s : Str) : ∀ l : List Str, inV (.str s) (l.map V.str) = l.contains s
  | [] => rfl
  | y :: r => by
    have ih := in_str s r
    unfold inV at ih ⊢
    rw [List.map_cons, List.any_cons, ih, List.contains_cons]
    congr 1
    show (y == s) = (s == y)
    by_cases e : y = s
    · subst e
      rfl
    · rw [beq_eq_false_iff_ne.mpr e, beq_eq_false_iff_ne.mpr (Ne.symm e)]
theorem in_words (w : Str) : inV (.str w) [.str "and", .str "or", .str "less"] = good1 w := by
  have e := in_str w ["and", "or", "less"]
  rw [show ([.str "and", .str "or", .str "less"] : List V) = (["and", "or", "less"] : List Str).map V.str from rfl, e]
  unfold good1
  simp [Bool.or_eq_true, decide_eq_true_eq]
/-- a general twig -/
structure TwG (K : PySem.W.Frag) (H : Hp) (p : Addr) (gs : List GT) (ms : List (Nat × Wd)) : Prop where
  ex : ∃ (lv mg : Addr) (us vs : List V), H p = some (.lst [.ref lv, .ref mg]) ∧ H lv = some (.lst vs) ∧ GRs K H vs gs ∧ H mg = some (.lst us) ∧ MRs H us ms
theorem GRs.nts {K : PySem.W.Frag} {H : Hp} : ∀ ls : List Nat, GRs K H (nts ls) (ls.map fun i => GT.int (i : Nat))
  | [] => .nil
  | i :: r => .cons (.int _) (GRs.nts r)

theorem GRs.at' {K : PySem.W.Frag} {H : Hp} {xs : List V} {ts : List GT} (h : GRs K H xs ts) {i : Nat} (hi : i < xs.length) : ∃ x t, xs[i]? = some x ∧ ts[i]? = some t ∧ GR K H x t := by
  obtain ⟨t, e, g⟩ := h.get (List.getElem?_eq_getElem hi)
  exact ⟨_, t, List.getElem?_eq_getElem hi, e, g⟩
/-- the first value of a plan that is no tree -/
def fbad (c : Int) : List V → List GT → Option V
  | v :: vs, g :: gs => if fine c g = true then fbad c vs gs else some v
  | _, _ => none

section Tac1
/-! ### the words: "rd" goes on as far as it can; "hp" finds what stands at an address; "t" "f" a test that is known -/
local macro_rules | `(tactic| walk_at "h0") => `(tactic| first | assumption | exact upd_same)
local macro_rules | `(tactic| walk_at "n0") => `(tactic| first
  | assumption | (apply Ne.symm; assumption) | exact ne_nn (by assumption) (by walk_at "h0") | exact ne_nn' (by assumption) (by walk_at "h0"))
local macro_rules | `(tactic| walk_at "hq") => `(tactic| first
  | assumption | exact upd_same | exact (upd_ne (by walk_at "n0")).trans (by walk_at "hq"))
local macro_rules | `(tactic| walk_at "ne") => `(tactic| first
  | assumption | (apply Ne.symm; assumption) | exact ne_nn (by assumption) (by walk_at "hq") | exact ne_nn' (by assumption) (by walk_at "hq"))
local macro_rules | `(tactic| walk_at "hp") => `(tactic| first
  | assumption
  | exact upd_same
  | exact (upd_ne (by walk_at "ne")).trans (by walk_at "hp")
  | exact same_at (by assumption) (by walk_at "hp")
  | exact ex_at (by assumption) (by walk_at "ne") (by walk_at "hp"))
local macro_rules | `(tactic| walk_at "sm") => `(tactic| first
  | assumption
  | exact Same.refl _
  | exact same_new (by walk_at "sm") (by assumption)
  | exact same_mut (by walk_at "sm") (by assumption))
local macro_rules | `(tactic| walk_at "ex") => `(tactic| first
  | assumption
  | exact Ex.refl _ _
  | exact Ex.new (by walk_at "ex") (by assumption)
  | exact Ex.mut (by walk_at "ex") (by assumption)
  | exact Ex.at (by walk_at "ex"))
local macro_rules | `(tactic| walk_at "sa") => `(tactic| first
  | assumption
  | exact seq' (by assumption) (by walk_at "sm")
  | exact tup' (by assumption) (by walk_at "sm"))
local macro_rules | `(tactic| walk_at "sq") => `(tactic| first
  | assumption
  | exact seq' (by assumption) (by walk_at "sm")
  | exact tup' (by assumption) (by walk_at "sm")
  | exact sql (by walk_at "hp")
  | exact sqt (by walk_at "hp"))
local macro_rules | `(tactic| walk_at "tt") => `(tactic| first | (simp; done) | (simp; omega))
local macro_rules | `(tactic| walk_at "tf") => `(tactic| first
  | ((with_reducible show if _ = true then _ else _); refine i_T (by walk_at "tt") ?_)
  | ((with_reducible show if _ = true then _ else _); refine i_F (by walk_at "tt") ?_))
local macro_rules | `(tactic| walk_at "ix") => `(tactic| first
  | exact ixn (j := 0) (by simp)
  | exact ixn (j := 1) (by simp)
  | exact ixn (j := 2) (by simp)
  | exact ixn (j := 3) (by simp)
  | exact ixn (j := 4) (by simp)
  | exact ixn (j := 5) (by simp)
  | exact ixn (j := 6) (by simp)
  | exact ixn (j := 7) (by simp))
local macro_rules | `(tactic| walk_at "at") => `(tactic| first
  | exact atI_nat (j := 0) (by rfl)
  | exact atI_nat (j := 1) (by rfl)
  | exact atI_nat (j := 2) (by rfl)
  | exact atI_nat (j := 3) (by rfl)
  | exact atI_nat (j := 4) (by rfl)
  | exact atI_nat (j := 5) (by rfl)
  | exact atI_nat (j := 6) (by rfl)
  | exact atI_nat (j := 7) (by rfl))
local macro_rules | `(tactic| walk_at "rd1") => `(tactic| first
  | with_reducible refine c_seq ?_
  | with_reducible refine c_asg ?_
  | ((with_reducible refine c_gname ?_); try dsimp only [List.set])
  | with_reducible refine c_ret ?_
  | with_reducible refine c_ifs ?_
  | ((with_reducible show tVar _ _ _ _); refine c_var (by rfl) ?_)
  | with_reducible refine c_c ?_
  | with_reducible refine c_op ?_
  | with_reducible refine c_un ?_
  | with_reducible refine c_test ?_
  | with_reducible refine c_B ?_
  | with_reducible refine c_CB ?_
  | with_reducible refine c_cons ?_
  | with_reducible refine c_nil ?_
  | with_reducible refine c_call ?_
  | with_reducible refine c_lst ?_
  | with_reducible refine c_tup ?_
  | with_reducible refine c_drop ?_
  | with_reducible refine c_gsub ?_
  | with_reducible refine c_BM ?_
  | with_reducible refine c_BM0 ?_
  | with_reducible refine c_and ?_
  | with_reducible refine c_or ?_
  | with_reducible refine c_not ?_
  | with_reducible refine c_andV ?_
  | with_reducible refine c_orV ?_
  | with_reducible refine c_notV ?_
  | with_reducible refine c_if ?_
  | with_reducible refine c_chain ?_
  | with_reducible refine c_next ?_
  | with_reducible refine c_retN ?_
  | with_reducible refine c_yes ?_
  | ((with_reducible show rIn _ _ (V.bl _) _ _ _); first | refine r_inL (by walk_at "sq") rfl (flat_bl _) ?_ | refine r_inL (by walk_at "sq") rfl (by rfl) ?_)
  | with_reducible refine r_I0 ?_
  | with_reducible refine r_U ?_
  | with_reducible refine r_eqI ?_
  | with_reducible refine r_neI ?_
  | with_reducible refine r_eqB ?_
  | with_reducible refine r_neB ?_
  | with_reducible refine r_eqS ?_
  | with_reducible refine r_neS ?_
  | ((with_reducible show rIxL _ _ (V.int (OfNat.ofNat _)) _ _); refine r_ixL (by walk_at "sq") (by walk_at "at") ?_)
  | ((with_reducible show rIxT _ _ (V.int (OfNat.ofNat _)) _ _); refine r_ixT (by walk_at "sq") (by walk_at "at") ?_)
  | ((with_reducible show rI CMul _ _ _ _ _); refine r_I (by first | exact .inl ⟨by omega, by omega⟩ | exact .inr ⟨by omega, by omega⟩) ?_)
  | ((with_reducible show rI CDiv _ _ _ _ _); refine r_I ⟨by omega, by omega⟩ ?_)
  | ((with_reducible show rI (fun _ _ => _) _ _ _ _ _); refine r_I (by first | assumption | omega | decide) ?_)
  | with_reducible refine r_pow18 ?_
  | with_reducible refine r_pow17 ?_
  | ((with_reducible show rSetL _ _ _ _ _); refine r_setL (by walk_at "hp") (by walk_at "ix") ?_; try dsimp only [List.set]; try simp only [upd_upd])
  | ((with_reducible show tyV _ _ _ _ ∧ _); refine ⟨.inl ⟨rfl, _, by walk_at "sq"⟩, ?_⟩)
  | ((with_reducible show rPop _ _ _ _); refine r_pop (by walk_at "hp") ?_)
  | ((with_reducible show rAppend _ _ _ _); refine r_app (by walk_at "hp") (by first | assumption | exact smallLt (by omega) | exact smallLt (by simp <;> omega)) ?_)
  | ((with_reducible show _ ≤ sizeLine ∧ _); refine ⟨small (by simp), ?_⟩)
  | ((with_reducible show V.non = V.non ∧ _); refine ⟨rfl, ?_⟩)
  | with_reducible refine iteT ?_
  | with_reducible refine iteF ?_
  | with_reducible refine ⟨_, rfl, ?_⟩
  | with_reducible refine ⟨_, _, rfl, ?_⟩
  | with_reducible refine Or.inl ⟨_, rfl, ?_⟩
  | with_reducible refine Or.inr ⟨_, rfl, ?_⟩
  | ((with_reducible show ∃ _ _, [_] = [_] ∧ _); first
    | refine ⟨_, _, rfl, Or.inl (by walk_at "sa"), ?_⟩ | refine ⟨_, _, rfl, Or.inr (by walk_at "sa"), ?_⟩
    | refine ⟨_, _, rfl, Or.inl (by exact sql (by walk_at "hp")), ?_⟩ | refine ⟨_, _, rfl, Or.inr (by exact sqt (by walk_at "hp")), ?_⟩))
local macro_rules | `(tactic| walk_at "nw") => `(tactic| (intro _ _))
local macro_rules | `(tactic| walk_at "rdn") => `(tactic| repeat (first | walk_at "rd1" | ((with_reducible show ∀ _ : Addr, _ = none → _); intro _ _)))
local macro_rules | `(tactic| walk_at "rd") => `(tactic| repeat walk_at "rd1")

def clsItem : Stmt → Nat → Stmt
  | .ClassDef (body := b) .., j => b.getD j (.Pass ⟨0, 0, 0, 0⟩)
  | s, _ => s
def topS (i : Nat) : Stmt := PySem.Challenge.pw_wholepages_k51_trees_and_plans_checked.main.body.getD i (.Pass ⟨0, 0, 0, 0⟩)
abbrev s_BadTree_init : Stmt := clsItem (topS 2) 0
abbrev N_BadTree_init : List Str := ["self", "tree"]
theorem sc_BadTree_init : FnScope N_BadTree_init ["self", "tree"] (defScope s_BadTree_init) := ⟨rfl, rfl, rfl, by decide +kernel, rfl, by decide +kernel, by decide +kernel⟩
abbrev s_TooMany_init : Stmt := clsItem (topS 3) 0
abbrev N_TooMany_init : List Str := ["self", "many"]
theorem sc_TooMany_init : FnScope N_TooMany_init ["self", "many"] (defScope s_TooMany_init) := ⟨rfl, rfl, rfl, by decide +kernel, rfl, by decide +kernel, by decide +kernel⟩
abbrev s_is_between : Stmt := topS 5
abbrev N_is_between : List Str := ["value", "low", "high"]
theorem sc_is_between : FnScope N_is_between ["value", "low", "high"] (defScope s_is_between) := ⟨rfl, rfl, rfl, by decide +kernel, rfl, by decide +kernel, by decide +kernel⟩
abbrev s_check_many : Stmt := topS 8
abbrev N_check_many : List Str := ["many"]
theorem sc_check_many : FnScope N_check_many ["many"] (defScope s_check_many) := ⟨rfl, rfl, rfl, by decide +kernel, rfl, by decide +kernel, by decide +kernel⟩
abbrev s_is_joining : Stmt := topS 12
abbrev N_is_joining : List Str := ["value"]
theorem sc_is_joining : FnScope N_is_joining ["value"] (defScope s_is_joining) := ⟨rfl, rfl, rfl, by decide +kernel, rfl, by decide +kernel, by decide +kernel⟩
abbrev s_check_tree : Stmt := topS 13
abbrev N_check_tree : List Str := ["tree", "count", "nodes", "waiting", "node"]
theorem sc_check_tree : FnScope N_check_tree ["tree", "count"] (defScope s_check_tree) := ⟨rfl, rfl, rfl, by decide +kernel, rfl, by decide +kernel, by decide +kernel⟩
abbrev s_check_plan : Stmt := topS 14
abbrev N_check_plan : List Str := ["plan", "count", "tree"]
theorem sc_check_plan : FnScope N_check_plan ["plan", "count"] (defScope s_check_plan) := ⟨rfl, rfl, rfl, by decide +kernel, rfl, by decide +kernel, by decide +kernel⟩
abbrev s__law_stream : Stmt := topS 16
abbrev N__law_stream : List Str := ["_law_script"]
theorem sc__law_stream : FnScope N__law_stream ["_law_script"] (defScope s__law_stream) := ⟨rfl, rfl, rfl, by decide +kernel, rfl, by decide +kernel, by decide +kernel⟩
abbrev s__law_draw : Stmt := topS 17
abbrev N__law_draw : List Str := ["_law_stream_here", "_law_many", "_law_place", "_law_cell", "_law_number"]
theorem sc__law_draw : FnScope N__law_draw ["_law_stream_here", "_law_many"] (defScope s__law_draw) := ⟨rfl, rfl, rfl, by decide +kernel, rfl, by decide +kernel, by decide +kernel⟩
abbrev s__law_alike : Stmt := topS 18
abbrev N__law_alike : List Str := ["_law_told", "_law_due", "_law_left", "_law_k", "_law_pair", "_law_one", "_law_two", "_law_at"]
theorem sc__law_alike : FnScope N__law_alike ["_law_told", "_law_due"] (defScope s__law_alike) := ⟨rfl, rfl, rfl, by decide +kernel, rfl, by decide +kernel, by decide +kernel⟩
abbrev s__law_twig : Stmt := topS 19
abbrev N__law_twig : List Str := ["_law_stream_here", "_law_count", "_law_most", "_law_k", "_law_leaves", "_law_merges"]
theorem sc__law_twig : FnScope N__law_twig ["_law_stream_here", "_law_count", "_law_most"] (defScope s__law_twig) := ⟨rfl, rfl, rfl, by decide +kernel, rfl, by decide +kernel, by decide +kernel⟩
abbrev s__law_grown : Stmt := topS 20
abbrev N__law_grown : List Str := ["_law_twig_here", "_law_parts", "_law_step", "_law_at"]
theorem sc__law_grown : FnScope N__law_grown ["_law_twig_here"] (defScope s__law_grown) := ⟨rfl, rfl, rfl, by decide +kernel, rfl, by decide +kernel, by decide +kernel⟩
abbrev s__law_piece : Stmt := topS 21
abbrev N__law_piece : List Str := ["_law_stream_here", "_law_count", "_law_kind", "_law_odd"]
theorem sc__law_piece : FnScope N__law_piece ["_law_stream_here", "_law_count"] (defScope s__law_piece) := ⟨rfl, rfl, rfl, by decide +kernel, rfl, by decide +kernel, by decide +kernel⟩
abbrev s__law_maybe_tree : Stmt := topS 22
abbrev N__law_maybe_tree : List Str := ["_law_stream_here", "_law_count", "_law_twig_here", "_law_good", "_law_tree", "_law_k"]
theorem sc__law_maybe_tree : FnScope N__law_maybe_tree ["_law_stream_here", "_law_count"] (defScope s__law_maybe_tree) := ⟨rfl, rfl, rfl, by decide +kernel, rfl, by decide +kernel, by decide +kernel⟩
abbrev s__law_checked : Stmt := topS 23
abbrev N__law_checked : List Str := ["_law_value", "_law_count", "_law_whole", "_law_told", "e", "f"]
theorem sc__law_checked : FnScope N__law_checked ["_law_value", "_law_count", "_law_whole"] (defScope s__law_checked) := ⟨rfl, rfl, rfl, by decide +kernel, rfl, by decide +kernel, by decide +kernel⟩
abbrev s_law : Stmt := topS 24
abbrev N_law : List Str := ["_law_script", "_law_stream_here", "_law_count", "_law_value", "_law_due", "_law_values", "_law_k", "_law_bad", "_law_one"]
theorem sc_law : FnScope N_law ["_law_script"] (defScope s_law) := ⟨rfl, rfl, rfl, by decide +kernel, rfl, by decide +kernel, by decide +kernel⟩
structure Txt (K : PySem.W.Frag) (mg : Str → Option Value) : Type where
  a_BadTree_init : Addr
  d_BadTree_init : FuncData
  F_BadTree_init : Fun K "__init__" "BadTree.__init__" s_BadTree_init a_BadTree_init d_BadTree_init
  b_BadTree_init : Binds K d_BadTree_init ["self", "tree"] []
  a_TooMany_init : Addr
  d_TooMany_init : FuncData
  F_TooMany_init : Fun K "__init__" "TooMany.__init__" s_TooMany_init a_TooMany_init d_TooMany_init
  b_TooMany_init : Binds K d_TooMany_init ["self", "many"] []
  a_is_between : Addr
  d_is_between : FuncData
  F_is_between : Fun K "is_between" "is_between" s_is_between a_is_between d_is_between
  b_is_between : Binds K d_is_between ["value", "low", "high"] []
  g_is_between : mg "is_between" = some (.ref a_is_between)
  a_check_many : Addr
  d_check_many : FuncData
  F_check_many : Fun K "check_many" "check_many" s_check_many a_check_many d_check_many
  b_check_many : Binds K d_check_many ["many"] []
  g_check_many : mg "check_many" = some (.ref a_check_many)
  a_is_joining : Addr
  d_is_joining : FuncData
  F_is_joining : Fun K "is_joining" "is_joining" s_is_joining a_is_joining d_is_joining
  b_is_joining : Binds K d_is_joining ["value"] []
  g_is_joining : mg "is_joining" = some (.ref a_is_joining)
  a_check_tree : Addr
  d_check_tree : FuncData
  F_check_tree : Fun K "check_tree" "check_tree" s_check_tree a_check_tree d_check_tree
  b_check_tree : Binds K d_check_tree ["tree", "count"] []
  g_check_tree : mg "check_tree" = some (.ref a_check_tree)
  a_check_plan : Addr
  d_check_plan : FuncData
  F_check_plan : Fun K "check_plan" "check_plan" s_check_plan a_check_plan d_check_plan
  b_check_plan : Binds K d_check_plan ["plan", "count"] []
  g_check_plan : mg "check_plan" = some (.ref a_check_plan)
  a_stream : Addr
  d_stream : FuncData
  F_stream : Fun K "_law_stream" "_law_stream" s__law_stream a_stream d_stream
  b_stream : Binds K d_stream ["_law_script"] []
  g_stream : mg "_law_stream" = some (.ref a_stream)
  a_draw : Addr
  d_draw : FuncData
  F_draw : Fun K "_law_draw" "_law_draw" s__law_draw a_draw d_draw
  b_draw : Binds K d_draw ["_law_stream_here", "_law_many"] []
  g_draw : mg "_law_draw" = some (.ref a_draw)
  a_alike : Addr
  d_alike : FuncData
  F_alike : Fun K "_law_alike" "_law_alike" s__law_alike a_alike d_alike
  b_alike : Binds K d_alike ["_law_told", "_law_due"] []
  g_alike : mg "_law_alike" = some (.ref a_alike)
  a_twig : Addr
  d_twig : FuncData
  F_twig : Fun K "_law_twig" "_law_twig" s__law_twig a_twig d_twig
  b_twig : Binds K d_twig ["_law_stream_here", "_law_count", "_law_most"] []
  g_twig : mg "_law_twig" = some (.ref a_twig)
  a_grown : Addr
  d_grown : FuncData
  F_grown : Fun K "_law_grown" "_law_grown" s__law_grown a_grown d_grown
  b_grown : Binds K d_grown ["_law_twig_here"] []
  g_grown : mg "_law_grown" = some (.ref a_grown)
  a_piece : Addr
  d_piece : FuncData
  F_piece : Fun K "_law_piece" "_law_piece" s__law_piece a_piece d_piece
  b_piece : Binds K d_piece ["_law_stream_here", "_law_count"] []
  g_piece : mg "_law_piece" = some (.ref a_piece)
  a_maybe_tree : Addr
  d_maybe_tree : FuncData
  F_maybe_tree : Fun K "_law_maybe_tree" "_law_maybe_tree" s__law_maybe_tree a_maybe_tree d_maybe_tree
  b_maybe_tree : Binds K d_maybe_tree ["_law_stream_here", "_law_count"] []
  g_maybe_tree : mg "_law_maybe_tree" = some (.ref a_maybe_tree)
  a_checked : Addr
  d_checked : FuncData
  F_checked : Fun K "_law_checked" "_law_checked" s__law_checked a_checked d_checked
  b_checked : Binds K d_checked ["_law_value", "_law_count", "_law_whole"] []
  g_checked : mg "_law_checked" = some (.ref a_checked)
  C_PagesError : Addr
  g_PagesError : mg "PagesError" = some (.ref C_PagesError)
  cB_PagesError : PySem.W.subIn K (.ref C_PagesError) (.type "BaseException") = some true
  cT_PagesError : PySem.W.typeIn K (.ref C_PagesError) = some (.type "type")
  kC_PagesError : PySem.W.keepIn K (.ref C_PagesError) = true
  is_PagesError : IsC K C_PagesError
  xf_PagesError : XfC K C_PagesError
  xF_PagesError : PySem.W.excIn K C_PagesError [.type "ValueError", .type "Exception", .type "BaseException", .type "object"] "ValueError.__new__" = true
  ga_PagesError : PySem.W.specialIn K (.ref C_PagesError) "__getattribute__" = some (some (.builtin "type.__getattribute__"))
  rd_PagesError : PySem.W.readsIn K C_PagesError (.type "type") = true
  vV_PagesError : PySem.W.findCls K (.ref C_PagesError) (.type "type") "__init__" = some (.val (.builtin "ValueError.__init__"))
  C_BadTree : Addr
  g_BadTree : mg "BadTree" = some (.ref C_BadTree)
  cB_BadTree : PySem.W.subIn K (.ref C_BadTree) (.type "BaseException") = some true
  cT_BadTree : PySem.W.typeIn K (.ref C_BadTree) = some (.type "type")
  kC_BadTree : PySem.W.keepIn K (.ref C_BadTree) = true
  is_BadTree : IsC K C_BadTree
  xf_BadTree : XfC K C_BadTree
  oc_BadTree : OexC K C_BadTree
  iC_BadTree : PySem.W.findIn K (.ref C_BadTree) "__init__" = some (some (.ref a_BadTree_init))
  tI_BadTree : PySem.W.typeIn K (.ref a_BadTree_init) = some (.type "function")
  no_BadTree : PySem.W.findIn K (.ref C_BadTree) "tree" = some none
  C_TooMany : Addr
  g_TooMany : mg "TooMany" = some (.ref C_TooMany)
  cB_TooMany : PySem.W.subIn K (.ref C_TooMany) (.type "BaseException") = some true
  cT_TooMany : PySem.W.typeIn K (.ref C_TooMany) = some (.type "type")
  kC_TooMany : PySem.W.keepIn K (.ref C_TooMany) = true
  is_TooMany : IsC K C_TooMany
  xf_TooMany : XfC K C_TooMany
  oc_TooMany : OexC K C_TooMany
  iC_TooMany : PySem.W.findIn K (.ref C_TooMany) "__init__" = some (some (.ref a_TooMany_init))
  tI_TooMany : PySem.W.typeIn K (.ref a_TooMany_init) = some (.type "function")
  no_TooMany : PySem.W.findIn K (.ref C_TooMany) "many" = some none
  kit_PagesError_PagesError : PySem.W.kitOne K (.ref C_PagesError) (.ref C_PagesError) = some true
  te_PagesError_PagesError : PySem.W.exmOne K (.ref C_PagesError) (.ref C_PagesError) = some true
  kit_PagesError_BadTree : PySem.W.kitOne K (.ref C_PagesError) (.ref C_BadTree) = some false
  te_PagesError_BadTree : PySem.W.exmOne K (.ref C_PagesError) (.ref C_BadTree) = some false
  kit_PagesError_TooMany : PySem.W.kitOne K (.ref C_PagesError) (.ref C_TooMany) = some false
  te_PagesError_TooMany : PySem.W.exmOne K (.ref C_PagesError) (.ref C_TooMany) = some false
  kit_BadTree_PagesError : PySem.W.kitOne K (.ref C_BadTree) (.ref C_PagesError) = some true
  te_BadTree_PagesError : PySem.W.exmOne K (.ref C_BadTree) (.ref C_PagesError) = some true
  kit_BadTree_BadTree : PySem.W.kitOne K (.ref C_BadTree) (.ref C_BadTree) = some true
  te_BadTree_BadTree : PySem.W.exmOne K (.ref C_BadTree) (.ref C_BadTree) = some true
  kit_BadTree_TooMany : PySem.W.kitOne K (.ref C_BadTree) (.ref C_TooMany) = some false
  te_BadTree_TooMany : PySem.W.exmOne K (.ref C_BadTree) (.ref C_TooMany) = some false
  kit_TooMany_PagesError : PySem.W.kitOne K (.ref C_TooMany) (.ref C_PagesError) = some true
  te_TooMany_PagesError : PySem.W.exmOne K (.ref C_TooMany) (.ref C_PagesError) = some true
  kit_TooMany_BadTree : PySem.W.kitOne K (.ref C_TooMany) (.ref C_BadTree) = some false
  te_TooMany_BadTree : PySem.W.exmOne K (.ref C_TooMany) (.ref C_BadTree) = some false
  kit_TooMany_TooMany : PySem.W.kitOne K (.ref C_TooMany) (.ref C_TooMany) = some true
  te_TooMany_TooMany : PySem.W.exmOne K (.ref C_TooMany) (.ref C_TooMany) = some true
  t_MOST : Tok
  g_MOST : mg "MOST" = some (.int (4) t_MOST)
  t_MOST_NODES : Tok
  g_MOST_NODES : mg "MOST_NODES" = some (.int (7) t_MOST_NODES)
  c_WORDS : Addr
  g_WORDS : mg "WORDS" = some (.ref c_WORDS)
  l_WORDS : ∀ H : Hp, SqT K H c_WORDS [.str "and", .str "or", .str "less"]
  z_abs : mg "abs" = none
  z_bool : mg "bool" = none
  z_int : mg "int" = none
  z_isinstance : mg "isinstance" = none
  z_len : mg "len" = none
  z_list : mg "list" = none
  z_max : mg "max" = none
  z_range : mg "range" = none
  z_str : mg "str" = none
  z_tuple : mg "tuple" = none
/-! ### the law's stream of numbers -/
/-- at S the law's stream: the copy of the script at L, a place, a number, how many draws it still gives -/
structure Strm (S L : Addr) (ns : List Int) (H : Hp) : Prop where
  at_ : ∃ (p : Nat) (n k : Int), H S = some (.lst [.ref L, .int p, .int n, .int k]) ∧ p ≤ ns.length ∧ 0 ≤ n ∧ 0 ≤ k
  lst : H L = some (.lst (ns.map V.int))
  ne : L ≠ S
  len : ns.length ≤ 63
theorem strm_at {S L : Addr} {ns : List Int} {H : Hp} {q n c : Int} (eL : H L = some (.lst (ns.map V.int))) (ne : L ≠ S) (hl : ns.length ≤ 63) (h0 : 0 ≤ q) (h1 : q ≤ ns.length) (hn : 0 ≤ n) (hc : 0 ≤ c) : Strm S L ns (upd H S (.lst [.ref L, .int q, .int n, .int c])) :=
  ⟨⟨q.toNat, n, c, by rw [upd_same, Int.toNat_of_nonneg h0], by omega, hn, hc⟩, by rw [upd_ne ne]; exact eL, ne, hl⟩
theorem Strm.new {S L : Addr} {ns : List Int} {H : Hp} {p : Addr} {o : HO} (s : Strm S L ns H) (h : H p = none) : Strm S L ns (upd H p o) := by
  obtain ⟨⟨a, b, c, e, z⟩, l, n, q⟩ := s
  exact ⟨⟨a, b, c, by rw [upd_ne (ne_of_none e h)]; exact e, z⟩, by rw [upd_ne (ne_of_none l h)]; exact l, n, q⟩
theorem Strm.upd {S L : Addr} {ns : List Int} {H : Hp} {p : Addr} {o : HO} (s : Strm S L ns H) (h1 : p ≠ S) (h2 : p ≠ L) : Strm S L ns (upd H p o) := by
  obtain ⟨⟨a, b, c, e, z⟩, l, n, q⟩ := s
  exact ⟨⟨a, b, c, by rw [upd_ne h1.symm]; exact e, z⟩, by rw [upd_ne h2.symm]; exact l, n, q⟩
theorem Strm.same {S L : Addr} {ns : List Int} {H H' : Hp} (s : Strm S L ns H) (h : Same H H') : Strm S L ns H' := by
  obtain ⟨⟨a, b, c, e, z⟩, l, n, q⟩ := s
  exact ⟨⟨a, b, c, h _ _ e, z⟩, h _ _ l, n, q⟩
theorem Strm.neS {S L : Addr} {ns : List Int} {H : Hp} {p : Addr} (s : Strm S L ns H) (h : H p = none) : p ≠ S := by
  obtain ⟨⟨a, b, c, e, z⟩, l, n, q⟩ := s
  exact (ne_of_none e h).symm
theorem Strm.neL {S L : Addr} {ns : List Int} {H : Hp} {p : Addr} (s : Strm S L ns H) (h : H p = none) : p ≠ L := by
  obtain ⟨⟨a, b, c, e, z⟩, l, n, q⟩ := s
  exact (ne_of_none l h).symm
def spStream (K : PySem.W.Frag) : Sp := fun vs H Q _ => ∃ (a : Addr) (ns : List Int), vs = [.ref a] ∧ SqL K H a (ns.map V.int) ∧ ns.length ≤ 63 ∧ ∀ S L H', H S = none → Same H H' → Strm S L ns H' → Q (.ref S) H'
def spDraw : Sp := fun vs H Q _ => ∃ (S L : Addr) (ns : List Int) (m : Int), vs = [.ref S, .int m] ∧ Strm S L ns H ∧ 0 < m ∧ m.natAbs < 2 ^ 200 ∧ ∀ r H', 0 ≤ r → r < m → Ex S H H' → Strm S L ns H' → Q (.int r) H'
theorem use_draw {S L : Addr} {ns : List Int} {m : Int} {H : Hp} {Q : VK} {E : XK} (s : Strm S L ns H) (h0 : 0 < m) (h1 : m < 10 ^ 40) (k : ∀ r H', 0 ≤ r → r < m → Ex S H H' → Strm S L ns H' → Q (.int r) H') : spDraw [.ref S, .int m] H Q E :=
  ⟨S, L, ns, m, rfl, s, h0, by omega, k⟩
section
variable {P : Program} {w : World} {K : PySem.W.Frag} {mg : Str → Option Value} {base : Heap}
theorem ok_stream (T : Txt K mg) : FnOk P w K mg base CX0 1 T.a_stream T.d_stream ["_law_script"] (spStream K) := by
  refine T.F_stream.ok sc__law_stream (fun vs H Q E h => ?_) (fun cdv A outer s H vs Q E hr h => ⟨_, (pss_one (ps_ret (pe_lst (pa_cons (pe_callTy call_list_of (by rfl) T.z_list (by decide +kernel) (pa_cons (pv 0) pa_nil)) (pa_cons pe_int (pa_cons pe_int (pa_cons pe_int pa_nil))))))), ?_⟩)
  · first | (obtain ⟨rfl, _⟩ := h; rfl) | (obtain ⟨_, rfl, _⟩ := h; rfl) | (obtain ⟨_, _, rfl, _⟩ := h; rfl) | (obtain ⟨_, _, _, rfl, _⟩ := h; rfl) | (obtain ⟨_, _, _, _, rfl, _⟩ := h; rfl) | (obtain ⟨_, _, _, _, _, rfl, _⟩ := h; rfl) | (obtain ⟨_, _, _, _, _, _, rfl, _⟩ := h; rfl) | (obtain ⟨_, _, _, _, _, _, _, rfl, _⟩ := h; rfl) | (obtain ⟨_, _, _, _, _, _, _, _, rfl, _⟩ := h; rfl) | (obtain ⟨_, _, _, _, _, _, _, _, _, rfl, _⟩ := h; rfl) | (obtain ⟨_, _, _, _, _, _, _, _, _, _, rfl, _⟩ := h; rfl) | (obtain ⟨_, _, _, _, _, _, _, _, _, _, _, rfl, _⟩ := h; rfl) | (obtain ⟨_, _, _, _, _, _, _, _, _, _, _, _, rfl, _⟩ := h; rfl) | (obtain ⟨_, _, _, _, _, _, _, _, _, _, _, _, _, rfl, _⟩ := h; rfl) | (obtain ⟨_, _, _, _, _, _, _, _, _, _, _, _, _, _, rfl, _⟩ := h; rfl)
  · obtain ⟨a, ns, rfl, hS, hl, k⟩ := h
    try dsimp only [cxOf, Cx.nox, Cx.wish]
    refine st_of (σ := [some _]) rfl ?_
    walk_at "rd"
    intro L hL
    walk_at "rd"
    intro S hs
    have hs' : H S = none := by
      by_cases e : S = L
      · rw [e, upd_same] at hs
        cases hs
      · rw [upd_ne e] at hs
        exact hs
    refine k S L _ hs' (by walk_at "sm") ⟨⟨0, 0, 0, upd_same, Nat.zero_le _, Int.le_refl _, Int.le_refl _⟩, ?_, ?_, hl⟩
    · have e : L ≠ S := ne_of_none upd_same hs
      rw [upd_ne e]
      exact upd_same
    · exact ne_of_none upd_same hs
theorem ok_draw (T : Txt K mg) : FnOk P w K mg base CX0 1 T.a_draw T.d_draw ["_law_stream_here", "_law_many"] (spDraw) := by
  refine T.F_draw.ok sc__law_draw (fun vs H Q E h => ?_) (fun cdv A outer s H vs Q E hr h => ⟨_, (Evl.pss_cut (ps_if (PW.pt (pw_and (PW.pt (pw_or (pt_cmpR op_eq (pe_ix ix_list (pv 0) pe_int (fun _ _ => rfl)) pe_int (nomark _)) (pw_or1 (pt_cmpR op_eq (pe_ix ix_list (pv 0) pe_int (fun _ _ => rfl)) pe_int (nomark _))))) (pw_and1 (pt_cmpR op_lt (pe_ix ix_list (pv 0) pe_int (fun _ _ => rfl)) (pe_callB call_len_seq (by rfl) T.z_len PySem.boot_len (pa_cons (pe_ix ix_list (pv 0) pe_int (fun _ _ => rfl)) pa_nil)) (nomark _)))))
      (pss_cons (ps_set (i := 2) sc__law_draw.nd rfl (.inl rfl) (pe_ix ix_list (pv 0) pe_int (fun _ _ => rfl)))
      (pss_cons (ps_set (i := 3) sc__law_draw.nd rfl (.inl rfl) (pe_ix ix_list (pe_ix ix_list (pv 0) pe_int (fun _ _ => rfl)) (pv 2) (fun _ _ => rfl)))
      (pss_cons (ps_set (i := 4) sc__law_draw.nd rfl (.inl rfl) (pe_op op_add (pe_op op_mul pe_int (pe_callB call_abs (by rfl) T.z_abs (by decide +kernel) (pa_cons (pv 3) pa_nil))) (pe_callTy call_int1 (by rfl) T.z_int (by decide +kernel) (pa_cons (pe_cmpR op_lt (pv 3) pe_int (nomark _)) pa_nil))))
      (pss_cons (ps_if (pt_cmpR op_lt (pv 4) (pe_op op_mul pe_int (pe_op op_pow pe_int pe_int)) (nomark _))
      (pss_cons (ps_set (i := 4) sc__law_draw.nd rfl (.inl rfl) (pe_op op_mod (pe_callTy call_int1 (by rfl) T.z_int (by decide +kernel) (pa_cons (pe_op op_add (pe_op op_mul (pv 4) pe_int) (pe_op op_mul (pe_op op_add (pe_op op_mul (pv 2) (pv 2)) pe_int) pe_int)) pa_nil)) pe_int))
      (pss_one (ps_set (i := 4) sc__law_draw.nd rfl (.inl rfl) (pe_op op_mod (pe_callTy call_int1 (by rfl) T.z_int (by decide +kernel) (pa_cons (pe_op op_add (pe_op op_add (pe_op op_mul (pe_op op_mul (pv 4) (pv 4)) pe_int) (pe_op op_mul (pv 4) pe_int)) pe_int) pa_nil)) pe_int))))
      pss_nil)
      (pss_cons (ps_asg (pe_op op_add (pv 2) pe_int) (pg_sub (pv 0) pe_int set_list))
      (pss_cons (ps_asg (pv 4) (pg_sub (pv 0) pe_int set_list))
      (pss_one (ps_asg pe_int (pg_sub (pv 0) pe_int set_list)))))))))
      pss_nil)
      (pss_cons (ps_if (pt_cmpR op_eq (pe_ix ix_list (pv 0) pe_int (fun _ _ => rfl)) pe_int (nomark _))
      (pss_one (ps_ret pe_int))
      pss_nil)
      (pss_cons (ps_set (i := 4) sc__law_draw.nd rfl (.inl rfl) (pe_ix ix_list (pv 0) pe_int (fun _ _ => rfl)))
      (pss_cons (ps_asg (pe_op op_fdivW (pv 4) (pv 1)) (pg_sub (pv 0) pe_int set_list))
      (pss_cons (ps_asg (pe_op op_sub (pe_ix ix_list (pv 0) pe_int (fun _ _ => rfl)) pe_int) (pg_sub (pv 0) pe_int set_list))
      (pss_one (ps_ret (pe_op op_mod (pe_callTy call_int1 (by rfl) T.z_int (by decide +kernel) (pa_cons (pv 4) pa_nil)) (pv 1))))))))), ?_⟩)
  · first | (obtain ⟨rfl, _⟩ := h; rfl) | (obtain ⟨_, rfl, _⟩ := h; rfl) | (obtain ⟨_, _, rfl, _⟩ := h; rfl) | (obtain ⟨_, _, _, rfl, _⟩ := h; rfl) | (obtain ⟨_, _, _, _, rfl, _⟩ := h; rfl) | (obtain ⟨_, _, _, _, _, rfl, _⟩ := h; rfl) | (obtain ⟨_, _, _, _, _, _, rfl, _⟩ := h; rfl) | (obtain ⟨_, _, _, _, _, _, _, rfl, _⟩ := h; rfl) | (obtain ⟨_, _, _, _, _, _, _, _, rfl, _⟩ := h; rfl) | (obtain ⟨_, _, _, _, _, _, _, _, _, rfl, _⟩ := h; rfl) | (obtain ⟨_, _, _, _, _, _, _, _, _, _, rfl, _⟩ := h; rfl) | (obtain ⟨_, _, _, _, _, _, _, _, _, _, _, rfl, _⟩ := h; rfl) | (obtain ⟨_, _, _, _, _, _, _, _, _, _, _, _, rfl, _⟩ := h; rfl) | (obtain ⟨_, _, _, _, _, _, _, _, _, _, _, _, _, rfl, _⟩ := h; rfl) | (obtain ⟨_, _, _, _, _, _, _, _, _, _, _, _, _, _, rfl, _⟩ := h; rfl)
  · obtain ⟨S, L, ns, m, rfl, hS, h0, h1, k⟩ := h
    try dsimp only [cxOf, Cx.nox, Cx.wish]
    refine st_of (σ := [some _, some _, none, none, none]) rfl ?_
    obtain ⟨⟨p, n, c, eS, hp, hn, hc⟩, eL, ne, hl⟩ := hS
    have hm : CDivW n m := wide_div h0 h1 (by decide) (by decide)
    refine ⟨fun σ' H' => ∃ x y z, σ' = [some (.ref S), some (.int m), x, y, z] ∧ Ex S H H' ∧ Strm S L ns H', ?_, ?_⟩
    · walk_at "rd"
      have key : ∀ H', Ex S H H' → Strm S L ns H' → (∃ x y z, [some (V.ref S), some (V.int m), none, none, none] = [some (V.ref S), some (V.int m), x, y, z] ∧ Ex S H H' ∧ Strm S L ns H') := fun H' a b => ⟨_, _, _, rfl, a, b⟩
      refine i_d (p := n = 0) (fun hz => ?_) (fun hz => ?_)
      · walk_at "rd"
        refine i_d (fun hl2 => ?_) (fun hl2 => ?_)
        · rw [List.length_map] at hl2
          have hlt : p < ns.length := by omega
          walk_at "rd"
          refine r_ixL (sql eL) (atI_nat (map_at hlt)) ?_
          generalize ns[p] = z
          walk_at "rd"
          refine i_d (fun hb => ?_) (fun hb => ?_)
          · walk_at "rd"
            exact ⟨_, _, _, rfl, Ex.at (Ex.refl _ _), strm_at eL ne hl (by omega) (by omega) (Int.emod_nonneg _ (by decide)) (by decide)⟩
          · walk_at "rd"
            exact ⟨_, _, _, rfl, Ex.at (Ex.refl _ _), strm_at eL ne hl (by omega) (by omega) (by split <;> split <;> omega) (by decide)⟩
        · walk_at "rd"
          exact key H (Ex.refl _ _) ⟨⟨p, n, c, eS, hp, hn, hc⟩, eL, ne, hl⟩
      · walk_at "rd"
        refine i_d (p := c = 0) (fun hz => ?_) (fun hz => ?_)
        · walk_at "rd"
          refine i_d (fun hl2 => ?_) (fun hl2 => ?_)
          · rw [List.length_map] at hl2
            have hlt : p < ns.length := by omega
            walk_at "rd"
            refine r_ixL (sql eL) (atI_nat (map_at hlt)) ?_
            generalize ns[p] = z
            walk_at "rd"
            refine i_d (fun hb => ?_) (fun hb => ?_)
            · walk_at "rd"
              exact ⟨_, _, _, rfl, Ex.at (Ex.refl _ _), strm_at eL ne hl (by omega) (by omega) (Int.emod_nonneg _ (by decide)) (by decide)⟩
            · walk_at "rd"
              exact ⟨_, _, _, rfl, Ex.at (Ex.refl _ _), strm_at eL ne hl (by omega) (by omega) (by split <;> split <;> omega) (by decide)⟩
          · walk_at "rd"
            exact key H (Ex.refl _ _) ⟨⟨p, n, c, eS, hp, hn, hc⟩, eL, ne, hl⟩
        · walk_at "rd"
          exact key H (Ex.refl _ _) ⟨⟨p, n, c, eS, hp, hn, hc⟩, eL, ne, hl⟩
    · rintro σ' H' ⟨x, y, z, rfl, ex, ⟨⟨p, n, c, eS, hp, hn, hc⟩, eL, ne, hl⟩⟩
      have hm : CDivW n m := wide_div h0 h1 (by decide) (by decide)
      walk_at "rd"
      refine i_d (p := c = 0) (fun hz => ?_) (fun hz => ?_)
      · walk_at "rd"
        exact k 0 H' (Int.le_refl _) h0 ex ⟨⟨p, n, c, eS, hp, hn, hc⟩, eL, ne, hl⟩
      · walk_at "rd"
        exact k _ _ (Int.emod_nonneg _ (by omega)) (Int.emod_lt_of_pos _ h0) (Ex.at ex) (strm_at eL ne hl (by omega) (by omega) (Int.ediv_nonneg hn (by omega)) (by omega))
end

/-! ### what is alike -/
mutual
/-- x and y are alike in H; n: how many looks that takes -/
inductive Al (K : PySem.W.Frag) (H : Hp) : V → V → Nat → Prop where
  | non : Al K H .non .non 1
  | bl (b : Bool) : Al K H (.bl b) (.bl b) 1
  | int (i : Int) : Al K H (.int i) (.int i) 1
  | str (s : Str) : Al K H (.str s) (.str s) 1
  | lst {a b : Addr} {xs ys : List V} {n : Nat} (h1 : SqL K H a xs) (h2 : SqL K H b ys) (h : Als K H xs ys n) : Al K H (.ref a) (.ref b) (n + 1)
  | tup {a b : Addr} {xs ys : List V} {n : Nat} (h1 : SqT K H a xs) (h2 : SqT K H b ys) (h : Als K H xs ys n) : Al K H (.ref a) (.ref b) (n + 1)
inductive Als (K : PySem.W.Frag) (H : Hp) : List V → List V → Nat → Prop where
  | nil : Als K H [] [] 0
  | cons {x y : V} {xs ys : List V} {n m : Nat} (h : Al K H x y n) (t : Als K H xs ys m) : Als K H (x :: xs) (y :: ys) (n + m)
end
section
variable {K : PySem.W.Frag} {H H' : Hp}
theorem Al.same {x y : V} {n : Nat} (h : Al K H x y n) (e : Same H H') : Al K H' x y n :=
  h.rec (motive_1 := fun x y n _ => Al K H' x y n) (motive_2 := fun xs ys n _ => Als K H' xs ys n) .non .bl .int .str (fun h1 h2 _ ih => .lst (e.seq h1) (e.seq h2) ih) (fun h1 h2 _ ih => .tup (same_tup e h1) (same_tup e h2) ih) .nil (fun _ _ a b => .cons a b)
theorem Als.same {xs ys : List V} {n : Nat} (h : Als K H xs ys n) (e : Same H H') : Als K H' xs ys n :=
  h.rec (motive_1 := fun x y n _ => Al K H' x y n) (motive_2 := fun xs ys n _ => Als K H' xs ys n) .non .bl .int .str (fun h1 h2 _ ih => .lst (e.seq h1) (e.seq h2) ih) (fun h1 h2 _ ih => .tup (same_tup e h1) (same_tup e h2) ih) .nil (fun _ _ a b => .cons a b)
theorem Als.len {xs ys : List V} {n : Nat} (h : Als K H xs ys n) : xs.length = ys.length :=
  h.rec (motive_1 := fun _ _ _ _ => True) (motive_2 := fun xs ys _ _ => xs.length = ys.length) trivial (fun _ => trivial) (fun _ => trivial) (fun _ => trivial) (fun _ _ _ _ => trivial) (fun _ _ _ _ => trivial) rfl (fun _ _ _ b => congrArg (· + 1) b)
theorem Als.app {xs ys us ws : List V} {n m : Nat} (h : Als K H xs ys n) (g : Als K H us ws m) : Als K H (xs ++ us) (ys ++ ws) (n + m) :=
  h.rec (motive_1 := fun _ _ _ _ => True) (motive_2 := fun xs ys n _ => Als K H (xs ++ us) (ys ++ ws) (n + m)) trivial (fun _ => trivial) (fun _ => trivial) (fun _ => trivial) (fun _ _ _ _ => trivial) (fun _ _ _ _ => trivial)
    (by rw [Nat.zero_add]; exact g) (fun a _ _ b => by rw [Nat.add_assoc]; exact .cons a b)
theorem Als.last {xs ys : List V} {x y : V} : ∀ {n : Nat}, Als K H (xs ++ [x]) (ys ++ [y]) n → xs.length = ys.length → ∃ m k, n = m + k ∧ Als K H xs ys m ∧ Al K H x y k := by
  induction xs generalizing ys with
  | nil =>
    intro n h hl
    cases ys with
    | cons _ _ => cases hl
    | nil =>
      cases h with
      | cons a t =>
        cases t
        exact ⟨0, _, by omega, .nil, a⟩
  | cons u us ih =>
    intro n h hl
    cases ys with
    | nil => cases hl
    | cons w ws =>
      cases h with
      | cons a t =>
        obtain ⟨m, k, e, t', l⟩ := ih t (by simpa using hl)
        exact ⟨_, k, by rw [e, Nat.add_assoc], .cons a t', l⟩
theorem Al.posI {x y : V} {n : Nat} (h : Al K H x y n) : 0 < n := by
  cases h <;> omega
theorem Als.le {xs ys : List V} {n : Nat} (h : Als K H xs ys n) : ys.length ≤ n :=
  h.rec (motive_1 := fun _ _ n _ => 0 < n) (motive_2 := fun _ ys n _ => ys.length ≤ n) (by decide) (fun _ => by decide) (fun _ => by decide) (fun _ => by decide) (fun _ _ _ _ => Nat.succ_pos _) (fun _ _ _ _ => Nat.succ_pos _) (Nat.le_refl _)
    (fun _ _ a b => by rw [List.length_cons]; omega)
theorem Al.pos {x y : V} {n : Nat} (h : Al K H x y n) : 0 < n := by
  cases h <;> omega
theorem Als.get {xs ys : List V} : ∀ {n : Nat} (i : Nat), Als K H xs ys n → i < xs.length → ∃ x y, xs[i]? = some x ∧ ys[i]? = some y := by
  intro n i h hi
  have e := h.len
  exact ⟨xs[i], ys[i]'(by omega), List.getElem?_eq_getElem hi, List.getElem?_eq_getElem (by omega)⟩
theorem Als.ints : ∀ ns : List Int, Als K H (ns.map V.int) (ns.map V.int) ns.length
  | [] => .nil
  | n :: r => by
    rw [List.length_cons, Nat.add_comm]
    exact .cons (.int n) (Als.ints r)
theorem Als.bls : ∀ ns : List Bool, Als K H (ns.map V.bl) (ns.map V.bl) ns.length
  | [] => .nil
  | n :: r => by
    rw [List.length_cons, Nat.add_comm]
    exact .cons (.bl n) (Als.bls r)
/-- the pairs that stand on the stack at l -/
inductive Prs (l : Addr) (H : Hp) : List V → List V → List V → Prop where
  | nil : Prs l H [] [] []
  | cons {p : Addr} {x y : V} {vs xs ys : List V} (h : H p = some (.lst [x, y])) (n : p ≠ l) (t : Prs l H vs xs ys) : Prs l H (.ref p :: vs) (x :: xs) (y :: ys)
theorem Prs.keep {l : Addr} {vs xs ys : List V} (h : Prs l H vs xs ys) (e : ∀ p o, p ≠ l → H p = some o → H' p = some o) : Prs l H' vs xs ys := by
  induction h with
  | nil => exact .nil
  | cons h n _ ih => exact .cons (e _ _ n h) n ih
theorem Prs.len {l : Addr} {vs xs ys : List V} (h : Prs l H vs xs ys) : vs.length = xs.length ∧ xs.length = ys.length := by
  induction h with
  | nil => exact ⟨rfl, rfl⟩
  | cons h n _ ih => exact ⟨congrArg (· + 1) ih.1, congrArg (· + 1) ih.2⟩
theorem Prs.app {l p : Addr} {x y : V} {vs xs ys : List V} (h : Prs l H vs xs ys) (hp : H p = some (.lst [x, y])) (n : p ≠ l) : Prs l H (vs ++ [.ref p]) (xs ++ [x]) (ys ++ [y]) := by
  induction h with
  | nil => exact .cons hp n .nil
  | cons h m _ ih => exact .cons h m ih
theorem Prs.last {l : Addr} {v x y : V} : ∀ {vs xs ys : List V}, Prs l H (vs ++ [v]) (xs ++ [x]) (ys ++ [y]) → vs.length = xs.length → xs.length = ys.length → ∃ p, v = .ref p ∧ H p = some (.lst [x, y]) ∧ p ≠ l ∧ Prs l H vs xs ys := by
  intro vs
  induction vs with
  | nil =>
    intro xs ys h h1 h2
    cases xs with
    | cons _ _ => cases h1
    | nil =>
      cases ys with
      | cons _ _ => cases h2
      | nil =>
        cases h with
        | cons h n t => exact ⟨_, rfl, h, n, .nil⟩
  | cons w ws ih =>
    intro xs ys h h1 h2
    cases xs with
    | nil => cases h1
    | cons u us =>
      cases ys with
      | nil => cases h2
      | cons z zs =>
        cases h with
        | cons h n t =>
          obtain ⟨p, e, hp, n', t'⟩ := ih t (by simpa using h1) (by simpa using h2)
          exact ⟨p, e, hp, n', .cons h n t'⟩
theorem snoc {l : List V} (h : l.length ≠ 0) : ∃ r v, l = r ++ [v] := by
  rcases List.eq_nil_or_concat l with e | ⟨r, v, e⟩
  · subst e
    exact absurd rfl h
  · exact ⟨r, v, by simpa using e⟩
/-! isinstance -/
theorem ty_lst {a : Addr} {xs : List V} (h : SqL K H a xs) : TyX K H (.ref a) (.type "list") := by
  rcases h with (h | ⟨o, h⟩) | ⟨o, _, _, h, c, _⟩
  · exact .base (.lst h)
  · exact .base (.frz h)
  · exact .kList h c
theorem ty_tup {a : Addr} {xs : List V} (h : SqT K H a xs) : TyX K H (.ref a) (.type "tuple") := by
  rcases h with (h | ⟨o, h⟩) | ⟨o, _, _, h, c, _⟩
  · exact .base (.tup h)
  · exact .fTuple h
  · exact .kTuple h c
theorem kit2 {t : String} {b : Bool} (h1 : kitB t "list" = some b) (h2 : b = true ∨ kitB t "tuple" = some false) : PySem.W.kitAny K (.type t) [.type "list", .type "tuple"] = some b := by
  refine kitAny_cons (kit_ty h1) (fun e => ?_) (fun e => e)
  subst e
  rcases h2 with h | h
  · cases h
  · exact kitAny_cons (kit_ty h) (fun _ => rfl) (fun e => e)
theorem kit2t {t : String} (h1 : kitB t "list" = some false) (h2 : kitB t "tuple" = some true) : PySem.W.kitAny K (.type t) [.type "list", .type "tuple"] = some true :=
  kitAny_cons (kit_ty h1) (fun _ => kitAny_cons (kit_ty h2) (fun e => nomatch e) (fun e => e)) (fun e => nomatch e)
theorem r_isi2 {x : V} {tp : Addr} {t : Value} {b : Bool} {Q : VK} (hT : H tp = some (.tup [.ty "list", .ty "tuple"])) (ty : TyX K H x t) (e : PySem.W.kitAny K t [.type "list", .type "tuple"] = some b) (q : Q (.bl b) H) : rIsiT K [x, .ref tp] H Q :=
  ⟨x, tp, _, t, _, b, rfl, hT, .cons (.ty _) (.cons (.ty _) .nil), ty, e, q⟩
theorem r_isi {x : V} {t c : String} {b : Bool} {Q : VK} (ty : TyX K H x (.type t)) (e : kitB t c = some b) (q : Q (.bl b) H) : rIsi K [x, .ty c] H Q :=
  ⟨x, _, _, _, b, rfl, .ty _, ty, kit_ty e, q⟩
theorem two_lst {x : V} {tp a : Addr} {xs : List V} {Q : VK} (hT : H tp = some (.tup [.ty "list", .ty "tuple"])) (h : SqL K H a xs) (q : Q (.bl true) H) : rIsiT K [.ref a, .ref tp] H Q := r_isi2 hT (ty_lst h) (kit2 (by decide +kernel) (.inl rfl)) q
theorem two_tup {x : V} {tp a : Addr} {xs : List V} {Q : VK} (hT : H tp = some (.tup [.ty "list", .ty "tuple"])) (h : SqT K H a xs) (q : Q (.bl true) H) : rIsiT K [.ref a, .ref tp] H Q := r_isi2 hT (ty_tup h) (kit2t (by decide +kernel) (by decide +kernel)) q
theorem two_non {tp : Addr} {Q : VK} (hT : H tp = some (.tup [.ty "list", .ty "tuple"])) (q : Q (.bl false) H) : rIsiT K [.non, .ref tp] H Q := r_isi2 hT (.base .non) (kit2 (by decide +kernel) (.inr (by decide +kernel))) q
theorem two_bl {tp : Addr} {b : Bool} {Q : VK} (hT : H tp = some (.tup [.ty "list", .ty "tuple"])) (q : Q (.bl false) H) : rIsiT K [.bl b, .ref tp] H Q := r_isi2 hT (.base (.bl b)) (kit2 (by decide +kernel) (.inr (by decide +kernel))) q
theorem two_int {tp : Addr} {b : Int} {Q : VK} (hT : H tp = some (.tup [.ty "list", .ty "tuple"])) (q : Q (.bl false) H) : rIsiT K [.int b, .ref tp] H Q := r_isi2 hT (.base (.int b)) (kit2 (by decide +kernel) (.inr (by decide +kernel))) q
theorem two_str {tp : Addr} {b : Str} {Q : VK} (hT : H tp = some (.tup [.ty "list", .ty "tuple"])) (q : Q (.bl false) H) : rIsiT K [.str b, .ref tp] H Q := r_isi2 hT (.base (.str b)) (kit2 (by decide +kernel) (.inr (by decide +kernel))) q
end
def spAlike (K : PySem.W.Frag) : Sp := fun vs H Q _ => ∃ (x y : V) (n : Nat), vs = [x, y] ∧ Al K H x y n ∧ n < 6000 ∧ ∀ H', Same H H' → Q (.bl true) H'
theorem use_alike {K : PySem.W.Frag} {x y : V} {n : Nat} {H : Hp} {Q : VK} {E : XK} (h : Al K H x y n) (hn : n < 6000) (k : ∀ H', Same H H' → Q (.bl true) H') : spAlike K [x, y] H Q E := ⟨x, y, n, rfl, h, hn, k⟩
section
variable {P : Program} {w : World} {K : PySem.W.Frag} {mg : Str → Option Value} {base : Heap}
local macro_rules | `(tactic| walk_at "isi") => `(tactic| first
  | ((with_reducible show rIsiT _ [V.non, _] _ _); refine two_non (by walk_at "hp") ?_)
  | ((with_reducible show rIsiT _ [V.bl _, _] _ _); refine two_bl (by walk_at "hp") ?_)
  | ((with_reducible show rIsiT _ [V.int _, _] _ _); refine two_int (by walk_at "hp") ?_)
  | ((with_reducible show rIsiT _ [V.str _, _] _ _); refine two_str (by walk_at "hp") ?_)
  | ((with_reducible show rIsiT _ [V.ref _, _] _ _); first | refine two_lst (x := .non) (by walk_at "hp") (by walk_at "sa") ?_ | refine two_tup (x := .non) (by walk_at "hp") (by walk_at "sa") ?_)
  | ((with_reducible show rIsi _ [V.non, _] _ _); first | refine r_isi (b := true) (.base .non) (by decide +kernel) ?_ | refine r_isi (b := false) (.base .non) (by decide +kernel) ?_)
  | ((with_reducible show rIsi _ [V.bl _, _] _ _); first | refine r_isi (b := true) (.base (.bl _)) (by decide +kernel) ?_ | refine r_isi (b := false) (.base (.bl _)) (by decide +kernel) ?_)
  | ((with_reducible show rIsi _ [V.int _, _] _ _); first | refine r_isi (b := true) (.base (.int _)) (by decide +kernel) ?_ | refine r_isi (b := false) (.base (.int _)) (by decide +kernel) ?_)
  | ((with_reducible show rIsi _ [V.str _, _] _ _); first | refine r_isi (b := true) (.base (.str _)) (by decide +kernel) ?_ | refine r_isi (b := false) (.base (.str _)) (by decide +kernel) ?_)
  | ((with_reducible show rIsi _ [V.ref _, _] _ _); first | first | refine r_isi (b := true) (ty_lst (by walk_at "sa")) (by decide +kernel) ?_ | refine r_isi (b := false) (ty_lst (by walk_at "sa")) (by decide +kernel) ?_ | first | refine r_isi (b := true) (ty_tup (by walk_at "sa")) (by decide +kernel) ?_ | refine r_isi (b := false) (ty_tup (by walk_at "sa")) (by decide +kernel) ?_))
local macro_rules | `(tactic| walk_at "go") => `(tactic| repeat (first | walk_at "rd1" | walk_at "tf" | walk_at "isi" | ((with_reducible show ∀ _ : Addr, _ = none → _); intro _ _)))
theorem ok_alike (T : Txt K mg) : FnOk P w K mg base CX0 1 T.a_alike T.d_alike ["_law_told", "_law_due"] (spAlike K) := by
  refine T.F_alike.ok sc__law_alike (fun vs H Q E h => ?_) (fun cdv A outer s H vs Q E hr h => ⟨_, (pss_cons (ps_set (i := 2) sc__law_alike.nd rfl (.inl rfl) (pe_lst (pa_cons (pe_lst (pa_cons (pv 0) (pa_cons (pv 1) pa_nil))) pa_nil)))
      (pss_cons (ps_for PassesOwn.never rfl (pi_range1 (by rfl) T.z_range (pa_cons pe_int pa_nil)) (pg_name (i := 3) sc__law_alike.nd rfl (.inl rfl))
      (pss_cons (ps_if (pt_cmpR op_eq (pe_callB call_len_seq (by rfl) T.z_len PySem.boot_len (pa_cons (pv 2) pa_nil)) pe_int (nomark _))
      (pss_one (ps_ret pe_bl))
      pss_nil)
      (pss_cons (ps_set (i := 4) sc__law_alike.nd rfl (.inl rfl) (pe_bm0 PySem.F.plainAttrs_list PySem.F.slot_list_pop PySem.F.type_list_pop mt_pop (pv 2)))
      (pss_cons (ps_set (i := 5) sc__law_alike.nd rfl (.inl rfl) (pe_ix ix_list (pv 4) pe_int (fun _ _ => rfl)))
      (pss_cons (ps_set (i := 6) sc__law_alike.nd rfl (.inl rfl) (pe_ix ix_list (pv 4) pe_int (fun _ _ => rfl)))
      (pss_one (ps_if (pt_val (pe_callB call_isiT (by rfl) T.z_isinstance (by decide +kernel) (pa_cons (pv 6) (pa_cons (pe_tup (pa_cons (pe_bltn (v := .ty "list") (by rfl) T.z_list (by decide +kernel) rfl) (pa_cons (pe_bltn (v := .ty "tuple") (by rfl) T.z_tuple (by decide +kernel) rfl) pa_nil))) pa_nil))))
      (pss_cons (ps_if (PW.pt (pw_or (pt_not (pt_val (pe_callB call_isiT (by rfl) T.z_isinstance (by decide +kernel) (pa_cons (pv 5) (pa_cons (pe_tup (pa_cons (pe_bltn (v := .ty "list") (by rfl) T.z_list (by decide +kernel) rfl) (pa_cons (pe_bltn (v := .ty "tuple") (by rfl) T.z_tuple (by decide +kernel) rfl) pa_nil))) pa_nil))))) (pw_or1 (pt_cmpR op_ne (pe_callB call_isi (by rfl) T.z_isinstance (by decide +kernel) (pa_cons (pv 5) (pa_cons (pe_bltn (v := .ty "list") (by rfl) T.z_list (by decide +kernel) rfl) pa_nil))) (pe_callB call_isi (by rfl) T.z_isinstance (by decide +kernel) (pa_cons (pv 6) (pa_cons (pe_bltn (v := .ty "list") (by rfl) T.z_list (by decide +kernel) rfl) pa_nil))) (nomark _)))))
      (pss_one (ps_ret pe_bl))
      pss_nil)
      (pss_cons (ps_if (pt_cmpR op_ne (pe_callB call_len_seq (by rfl) T.z_len PySem.boot_len (pa_cons (pv 5) pa_nil)) (pe_callB call_len_seq (by rfl) T.z_len PySem.boot_len (pa_cons (pv 6) pa_nil)) (nomark _))
      (pss_one (ps_ret pe_bl))
      pss_nil)
      (pss_one (ps_for PassesOwn.never rfl (pi_range1 (by rfl) T.z_range (pa_cons (pe_callB call_len_seq (by rfl) T.z_len PySem.boot_len (pa_cons (pv 6) pa_nil)) pa_nil)) (pg_name (i := 7) sc__law_alike.nd rfl (.inl rfl))
      (pss_one (ps_expr (pe_bm PySem.F.plainAttrs_list PySem.F.slot_list_append PySem.F.type_list_append mt_append (pv 2) (pa_cons (pe_lst (pa_cons (pe_ix ix_seq (pv 5) (pv 7) (fun _ _ => rfl)) (pa_cons (pe_ix ix_seq (pv 6) (pv 7) (fun _ _ => rfl)) pa_nil))) pa_nil))))))))
      (pss_one (ps_if (pt_cmpR op_isN (pv 6) pe_non (nomark _))
      (pss_one (ps_if (pt_cmpR op_notN (pv 5) pe_non (nomark _))
      (pss_one (ps_ret pe_bl))
      pss_nil))
      (pss_one (ps_if (pt_val (pe_callB call_isi (by rfl) T.z_isinstance (by decide +kernel) (pa_cons (pv 6) (pa_cons (pe_bltn (v := .ty "bool") (by rfl) T.z_bool (by decide +kernel) rfl) pa_nil))))
      (pss_one (ps_if (PW.pt (pw_or (pt_not (pt_val (pe_callB call_isi (by rfl) T.z_isinstance (by decide +kernel) (pa_cons (pv 5) (pa_cons (pe_bltn (v := .ty "bool") (by rfl) T.z_bool (by decide +kernel) rfl) pa_nil))))) (pw_or1 (pt_cmpR op_ne (pv 5) (pv 6) (nomark _)))))
      (pss_one (ps_ret pe_bl))
      pss_nil))
      (pss_one (ps_if (pt_val (pe_callB call_isi (by rfl) T.z_isinstance (by decide +kernel) (pa_cons (pv 6) (pa_cons (pe_bltn (v := .ty "int") (by rfl) T.z_int (by decide +kernel) rfl) pa_nil))))
      (pss_one (ps_if (PW.pt (pw_or (pt_not (pt_val (pe_callB call_isi (by rfl) T.z_isinstance (by decide +kernel) (pa_cons (pv 5) (pa_cons (pe_bltn (v := .ty "int") (by rfl) T.z_int (by decide +kernel) rfl) pa_nil))))) (pw_or (pt_val (pe_callB call_isi (by rfl) T.z_isinstance (by decide +kernel) (pa_cons (pv 5) (pa_cons (pe_bltn (v := .ty "bool") (by rfl) T.z_bool (by decide +kernel) rfl) pa_nil)))) (pw_or1 (pt_cmpR op_ne (pv 5) (pv 6) (nomark _))))))
      (pss_one (ps_ret pe_bl))
      pss_nil))
      (pss_one (ps_if (PW.pt (pw_or (pt_not (pt_val (pe_callB call_isi (by rfl) T.z_isinstance (by decide +kernel) (pa_cons (pv 5) (pa_cons (pe_bltn (v := .ty "str") (by rfl) T.z_str (by decide +kernel) rfl) pa_nil))))) (pw_or1 (pt_cmpR op_ne (pv 5) (pv 6) (nomark _)))))
      (pss_one (ps_ret pe_bl))
      pss_nil)))))))))))))))
      (pss_one (ps_ret pe_bl)))), ?_⟩)
  · first | (obtain ⟨rfl, _⟩ := h; rfl) | (obtain ⟨_, rfl, _⟩ := h; rfl) | (obtain ⟨_, _, rfl, _⟩ := h; rfl) | (obtain ⟨_, _, _, rfl, _⟩ := h; rfl) | (obtain ⟨_, _, _, _, rfl, _⟩ := h; rfl) | (obtain ⟨_, _, _, _, _, rfl, _⟩ := h; rfl) | (obtain ⟨_, _, _, _, _, _, rfl, _⟩ := h; rfl) | (obtain ⟨_, _, _, _, _, _, _, rfl, _⟩ := h; rfl) | (obtain ⟨_, _, _, _, _, _, _, _, rfl, _⟩ := h; rfl) | (obtain ⟨_, _, _, _, _, _, _, _, _, rfl, _⟩ := h; rfl) | (obtain ⟨_, _, _, _, _, _, _, _, _, _, rfl, _⟩ := h; rfl) | (obtain ⟨_, _, _, _, _, _, _, _, _, _, _, rfl, _⟩ := h; rfl) | (obtain ⟨_, _, _, _, _, _, _, _, _, _, _, _, rfl, _⟩ := h; rfl) | (obtain ⟨_, _, _, _, _, _, _, _, _, _, _, _, _, rfl, _⟩ := h; rfl) | (obtain ⟨_, _, _, _, _, _, _, _, _, _, _, _, _, _, rfl, _⟩ := h; rfl)
  · obtain ⟨x, y, N, rfl, hA, hN, k⟩ := h
    try dsimp only [cxOf, Cx.nox, Cx.wish]
    refine st_of (σ := [some _, some _, none, none, none, none, none, none]) rfl ?_
    walk_at "rd"
    intro p hp
    walk_at "rd"
    intro l hl
    have npl : p ≠ l := ne_of_none upd_same hl
    have hl0 : H l = none := by
      rw [upd_ne npl.symm] at hl
      exact hl
    walk_at "rd"
    refine c_rng1 ?_
    walk_at "rd"
    refine ⟨by decide, by decide, for_range (lo := 0) (n := 6000) (fun i σ' H' => ∃ vs xs ys n a b c d e, σ' = [some x, some y, some (.ref l), a, b, c, d, e] ∧ H' l = some (.lst vs) ∧ Prs l H' vs xs ys ∧ Als K H xs ys n ∧ n + i ≤ 5999 ∧ Same H H') ?_ ?_ ?_⟩
    · refine ⟨_, [x], [y], N, none, none, none, none, none, rfl, upd_same, .cons ((upd_ne npl).trans upd_same) npl .nil, ?_, by omega, by walk_at "sm"⟩
      exact .cons hA .nil
    · rintro i σ' H' hi ⟨vs, xs, ys, n, a, b, c, d, e, rfl, el, pr, al, hn, sm⟩
      obtain ⟨hv1, hv2⟩ := pr.len
      walk_at "rd"
      refine i_d (fun hz => ?_) (fun hz => ?_)
      · walk_at "rd"
        exact k H' sm
      · have hz' : vs.length ≠ 0 := by omega
        obtain ⟨vs, v, rfl⟩ := snoc hz'
        obtain ⟨xs, x1, rfl⟩ := snoc (l := xs) (by omega)
        obtain ⟨ys, y1, rfl⟩ := snoc (l := ys) (by omega)
        rw [List.length_append, List.length_append] at hv1
        rw [List.length_append, List.length_append] at hv2
        obtain ⟨p1, rfl, hp1, n1, pr⟩ := pr.last (by simpa using hv1) (by simpa using hv2)
        obtain ⟨m, q, rfl, als, al⟩ := al.last (by simpa using hv2)
        have pr' : Prs l (upd H' l (.lst vs)) vs xs ys := pr.keep fun p o n h => (upd_ne n).trans h
        have sm' : Same H (upd H' l (.lst vs)) := same_mut sm hl0
        have hp1' : (upd H' l (.lst vs)) p1 = some (.lst [x1, y1]) := (upd_ne n1).trans hp1
        have el' : (upd H' l (.lst vs)) l = some (.lst vs) := upd_same
        walk_at "rd"
        intro tp htp
        walk_at "rd"
        have hq := al.pos
        have hvs : vs.length ≤ 5999 := by
          have := als.le
          simp at hv1 hv2
          omega
        have fin : ∀ H2 n2 (q : Same (upd H' l (.lst vs)) H2), H2 l = some (.lst vs) → ∃ n3, n3 + (i + 1) ≤ 5999 ∧ Prs l H2 vs xs ys ∧ Als K H xs ys n3 ∧ Same H H2 := fun H2 n2 q z => ⟨m, by omega, pr'.keep fun p o _ h => q p o h, als, Same.trans sm' q⟩
        have fin : ∀ H2 (q : Same (upd H' l (.lst vs)) H2), ∃ n3, n3 + (i + 1) ≤ 5999 ∧ Prs l H2 vs xs ys ∧ Als K H xs ys n3 ∧ Same H H2 := fun H2 q => ⟨m, by omega, pr'.keep fun p o _ h => q p o h, als, Same.trans sm' q⟩
        cases al
        · walk_at "go"
          obtain ⟨n3, a1, a2, a3, a4⟩ := fin _ (same_new (Same.refl _) htp)
          exact ⟨vs, xs, ys, n3, _, _, _, _, _, rfl, by walk_at "hp", a2, a3, a1, a4⟩
        · walk_at "go"
          obtain ⟨n3, a1, a2, a3, a4⟩ := fin _ (same_new (Same.refl _) htp)
          exact ⟨vs, xs, ys, n3, _, _, _, _, _, rfl, by walk_at "hp", a2, a3, a1, a4⟩
        · walk_at "go"
          obtain ⟨n3, a1, a2, a3, a4⟩ := fin _ (same_new (Same.refl _) htp)
          exact ⟨vs, xs, ys, n3, _, _, _, _, _, rfl, by walk_at "hp", a2, a3, a1, a4⟩
        · walk_at "go"
          obtain ⟨n3, a1, a2, a3, a4⟩ := fin _ (same_new (Same.refl _) htp)
          exact ⟨vs, xs, ys, n3, _, _, _, _, _, rfl, by walk_at "hp", a2, a3, a1, a4⟩
        case lst a1 b1 xs1 ys1 n1 h1 h2 hs =>
          have hlen : xs1.length = ys1.length := hs.len
          walk_at "isi"
          walk_at "rd"
          intro tq htq
          walk_at "rd"
          walk_at "isi"
          walk_at "rd"
          walk_at "tf"
          walk_at "rd"
          walk_at "isi"
          walk_at "rd"
          walk_at "isi"
          walk_at "rd"
          walk_at "tf"
          walk_at "rd"
          refine i_n (fun hne => absurd (by omega) hne) (fun _ => ?_)
          walk_at "rd"
          with_reducible refine c_rng1 ?_
          walk_at "rd"
          have smq : Same H (upd (upd (upd H' l (.lst vs)) tp (.tup [.ty "list", .ty "tuple"])) tq (.tup [.ty "list", .ty "tuple"])) := by walk_at "sm"
          have prq : Prs l (upd (upd (upd H' l (.lst vs)) tp (.tup [.ty "list", .ty "tuple"])) tq (.tup [.ty "list", .ty "tuple"])) vs xs ys := pr'.keep fun p o _ h => (same_new (same_new (Same.refl _) htp) htq) p o h
          have elq : (upd (upd (upd H' l (.lst vs)) tp (.tup [.ty "list", .ty "tuple"])) tq (.tup [.ty "list", .ty "tuple"])) l = some (.lst vs) := by walk_at "hp"
          generalize (upd (upd (upd H' l (.lst vs)) tp (.tup [.ty "list", .ty "tuple"])) tq (.tup [.ty "list", .ty "tuple"])) = G at smq prq elq
          have hbnd : ys1.length ≤ 5999 := by
            have := hs.le
            omega
          refine ⟨by omega, by omega, for_range (lo := 0) (n := ys1.length) (fun j σ3 H3 => ∃ us e1, σ3 = [some x, some y, some (.ref l), some (.int (0 + (i : Int))), some (.ref p1), some (.ref a1), some (.ref b1), e1] ∧ H3 l = some (.lst us) ∧ us.length ≤ 5999 + j ∧ Prs l H3 us (xs ++ xs1.take j) (ys ++ ys1.take j) ∧ Same H H3) ?_ ?_ ?_⟩
          · refine ⟨vs, _, rfl, elq, by omega, ?_, smq⟩
            rw [List.take_zero, List.take_zero, List.append_nil, List.append_nil]
            exact prq
          · rintro j σ3 H3 hj ⟨us, e1, rfl, el3, hus, pr3, sm3⟩
            have hx : xs1[j]? = some (xs1[j]'(by omega)) := List.getElem?_eq_getElem _
            have hy : ys1[j]? = some (ys1[j]'(by omega)) := List.getElem?_eq_getElem _
            rw [Int.zero_add]
            walk_at "rd"
            refine .inl (r_ixL (by walk_at "sa") (atI_nat hx) ?_)
            walk_at "rd"
            refine .inl (r_ixL (by walk_at "sa") (atI_nat hy) ?_)
            walk_at "rd"
            intro q hq
            have hql : q ≠ l := (ne_of_none el3 hq).symm
            walk_at "rd"
            refine ⟨us ++ [.ref q], _, rfl, upd_same, by simp; omega, ?_, same_mut (same_new sm3 hq) hl0⟩
            rw [List.take_add_one, List.take_add_one, hx, hy]
            have pr4 : Prs l (upd (upd H3 q (.lst [xs1[j]'(by omega), ys1[j]'(by omega)])) l (.lst (us ++ [.ref q]))) us (xs ++ xs1.take j) (ys ++ ys1.take j) := pr3.keep fun p o n h => (upd_ne n).trans ((upd_ne (ne_of_none h hq)).trans h)
            have := pr4.app (p := q) ((upd_ne hql).trans upd_same) hql
            simpa [List.append_assoc] using this
          · rintro σ3 H3 ⟨us, e1, rfl, el3, hus, pr3, sm3⟩
            rw [List.take_of_length_le (by omega), List.take_of_length_le (by omega)] at pr3
            exact ⟨us, xs ++ xs1, ys ++ ys1, m + n1, _, _, _, _, _, rfl, el3, pr3, als.app hs, by omega, sm3⟩
        case tup a1 b1 xs1 ys1 n1 h1 h2 hs =>
          have hlen : xs1.length = ys1.length := hs.len
          walk_at "isi"
          walk_at "rd"
          intro tq htq
          walk_at "rd"
          walk_at "isi"
          walk_at "rd"
          walk_at "tf"
          walk_at "rd"
          walk_at "isi"
          walk_at "rd"
          walk_at "isi"
          walk_at "rd"
          walk_at "tf"
          walk_at "rd"
          refine i_n (fun hne => absurd (by omega) hne) (fun _ => ?_)
          walk_at "rd"
          with_reducible refine c_rng1 ?_
          walk_at "rd"
          have smq : Same H (upd (upd (upd H' l (.lst vs)) tp (.tup [.ty "list", .ty "tuple"])) tq (.tup [.ty "list", .ty "tuple"])) := by walk_at "sm"
          have prq : Prs l (upd (upd (upd H' l (.lst vs)) tp (.tup [.ty "list", .ty "tuple"])) tq (.tup [.ty "list", .ty "tuple"])) vs xs ys := pr'.keep fun p o _ h => (same_new (same_new (Same.refl _) htp) htq) p o h
          have elq : (upd (upd (upd H' l (.lst vs)) tp (.tup [.ty "list", .ty "tuple"])) tq (.tup [.ty "list", .ty "tuple"])) l = some (.lst vs) := by walk_at "hp"
          generalize (upd (upd (upd H' l (.lst vs)) tp (.tup [.ty "list", .ty "tuple"])) tq (.tup [.ty "list", .ty "tuple"])) = G at smq prq elq
          have hbnd : ys1.length ≤ 5999 := by
            have := hs.le
            omega
          refine ⟨by omega, by omega, for_range (lo := 0) (n := ys1.length) (fun j σ3 H3 => ∃ us e1, σ3 = [some x, some y, some (.ref l), some (.int (0 + (i : Int))), some (.ref p1), some (.ref a1), some (.ref b1), e1] ∧ H3 l = some (.lst us) ∧ us.length ≤ 5999 + j ∧ Prs l H3 us (xs ++ xs1.take j) (ys ++ ys1.take j) ∧ Same H H3) ?_ ?_ ?_⟩
          · refine ⟨vs, _, rfl, elq, by omega, ?_, smq⟩
            rw [List.take_zero, List.take_zero, List.append_nil, List.append_nil]
            exact prq
          · rintro j σ3 H3 hj ⟨us, e1, rfl, el3, hus, pr3, sm3⟩
            have hx : xs1[j]? = some (xs1[j]'(by omega)) := List.getElem?_eq_getElem _
            have hy : ys1[j]? = some (ys1[j]'(by omega)) := List.getElem?_eq_getElem _
            rw [Int.zero_add]
            walk_at "rd"
            refine .inr (.inl (r_ixT (by walk_at "sa") (atI_nat hx) ?_))
            walk_at "rd"
            refine .inr (.inl (r_ixT (by walk_at "sa") (atI_nat hy) ?_))
            walk_at "rd"
            intro q hq
            have hql : q ≠ l := (ne_of_none el3 hq).symm
            walk_at "rd"
            refine ⟨us ++ [.ref q], _, rfl, upd_same, by simp; omega, ?_, same_mut (same_new sm3 hq) hl0⟩
            rw [List.take_add_one, List.take_add_one, hx, hy]
            have pr4 : Prs l (upd (upd H3 q (.lst [xs1[j]'(by omega), ys1[j]'(by omega)])) l (.lst (us ++ [.ref q]))) us (xs ++ xs1.take j) (ys ++ ys1.take j) := pr3.keep fun p o n h => (upd_ne n).trans ((upd_ne (ne_of_none h hq)).trans h)
            have := pr4.app (p := q) ((upd_ne hql).trans upd_same) hql
            simpa [List.append_assoc] using this
          · rintro σ3 H3 ⟨us, e1, rfl, el3, hus, pr3, sm3⟩
            rw [List.take_of_length_le (by omega), List.take_of_length_le (by omega)] at pr3
            exact ⟨us, xs ++ xs1, ys ++ ys1, m + n1, _, _, _, _, _, rfl, el3, pr3, als.app hs, by omega, sm3⟩
    · rintro σ' H' ⟨vs, xs, ys, n, a, b, c, d, e, rfl, el, pr, al, hn, sm⟩
      omega
end

theorem GR.al {K : PySem.W.Frag} {H : Hp} {x : V} {t : GT} (h : GR K H x t) : Al K H x x t.sz :=
  h.rec (motive_1 := fun x t _ => Al K H x x t.sz) (motive_2 := fun xs ts _ => Als K H xs xs (szs ts)) .non .bl .int .str (fun h _ ih => .lst h h ih) (fun h _ ih => .tup h h ih) .nil (fun _ _ a b => .cons a b)

end Tac1
section Tac2
/-! ### the words: "rd" goes on as far as it can; "hp" finds what stands at an address; "t" "f" a test that is known -/
local macro_rules | `(tactic| walk_at "h0") => `(tactic| first | (with_reducible assumption) | with_reducible exact upd_same)
local macro_rules | `(tactic| walk_at "n0") => `(tactic| first
  | (with_reducible assumption) | (apply Ne.symm; with_reducible assumption) | exact ne_nn (by with_reducible assumption) (by walk_at "h0") | exact ne_nn' (by with_reducible assumption) (by walk_at "h0"))
local macro_rules | `(tactic| walk_at "hq") => `(tactic| first
  | (with_reducible assumption) | with_reducible exact upd_same | exact (upd_ne (by walk_at "n0")).trans (by walk_at "hq"))
local macro_rules | `(tactic| walk_at "ne") => `(tactic| first
  | (with_reducible assumption) | (apply Ne.symm; with_reducible assumption) | exact ne_nn (by with_reducible assumption) (by walk_at "hq") | exact ne_nn' (by with_reducible assumption) (by walk_at "hq"))
local macro_rules | `(tactic| walk_at "sm") => `(tactic| first
  | (with_reducible assumption)
  | with_reducible exact Same.refl _
  | exact same_new (by walk_at "sm") (by with_reducible assumption)
  | exact same_mut (by walk_at "sm") (by with_reducible assumption))
local macro_rules | `(tactic| walk_at "hp") => `(tactic| first
  | (with_reducible assumption)
  | with_reducible exact upd_same
  | exact new_at (by with_reducible assumption) (by walk_at "sm")
  | exact old_at (by with_reducible assumption) (by walk_at "sm")
  | exact (upd_ne (by walk_at "ne")).trans (by walk_at "hp")
  | exact same_at (by with_reducible assumption) (by walk_at "hp")
  | exact ex_at (by with_reducible assumption) (by walk_at "ne") (by walk_at "hp"))
local macro_rules | `(tactic| walk_at "ex") => `(tactic| first
  | (with_reducible assumption)
  | exact Ex.refl _ _
  | exact Ex.new (by walk_at "ex") (by with_reducible assumption)
  | exact Ex.mut (by walk_at "ex") (by with_reducible assumption)
  | exact Ex.at (by walk_at "ex"))
local macro_rules | `(tactic| walk_at "sa") => `(tactic| first
  | (with_reducible assumption)
  | exact seq' (by with_reducible assumption) (by walk_at "sm")
  | exact tup' (by with_reducible assumption) (by walk_at "sm"))
local macro_rules | `(tactic| walk_at "sq") => `(tactic| first
  | (with_reducible assumption)
  | exact seq' (by with_reducible assumption) (by walk_at "sm")
  | exact tup' (by with_reducible assumption) (by walk_at "sm")
  | exact sql (by walk_at "hp")
  | exact sqt (by walk_at "hp"))
local macro_rules | `(tactic| walk_at "tt") => `(tactic| first | (simp; done) | (simp; omega))
local macro_rules | `(tactic| walk_at "tf") => `(tactic| first
  | ((with_reducible show if _ = true then _ else _); refine i_T (by walk_at "tt") ?_)
  | ((with_reducible show if _ = true then _ else _); refine i_F (by walk_at "tt") ?_))
local macro_rules | `(tactic| walk_at "ix") => `(tactic| first
  | exact ixn (j := 0) (by simp)
  | exact ixn (j := 1) (by simp)
  | exact ixn (j := 2) (by simp)
  | exact ixn (j := 3) (by simp)
  | exact ixn (j := 4) (by simp)
  | exact ixn (j := 5) (by simp)
  | exact ixn (j := 6) (by simp)
  | exact ixn (j := 7) (by simp))
local macro_rules | `(tactic| walk_at "at") => `(tactic| first
  | exact atI_nat (j := 0) (by rfl)
  | exact atI_nat (j := 1) (by rfl)
  | exact atI_nat (j := 2) (by rfl)
  | exact atI_nat (j := 3) (by rfl)
  | exact atI_nat (j := 4) (by rfl)
  | exact atI_nat (j := 5) (by rfl)
  | exact atI_nat (j := 6) (by rfl)
  | exact atI_nat (j := 7) (by rfl))
local macro_rules | `(tactic| walk_at "rd1") => `(tactic| first
  | with_reducible refine c_seq ?_
  | with_reducible refine c_asg ?_
  | ((with_reducible refine c_gname ?_); try dsimp only [List.set])
  | with_reducible refine c_ret ?_
  | with_reducible refine c_ifs ?_
  | ((with_reducible show tVar _ _ _ _); refine c_var (by rfl) ?_)
  | with_reducible refine c_c ?_
  | with_reducible refine c_op ?_
  | with_reducible refine c_un ?_
  | with_reducible refine c_test ?_
  | with_reducible refine c_B ?_
  | with_reducible refine c_CB ?_
  | with_reducible refine c_cons ?_
  | with_reducible refine c_nil ?_
  | with_reducible refine c_call ?_
  | with_reducible refine c_lst ?_
  | with_reducible refine c_tup ?_
  | with_reducible refine c_drop ?_
  | with_reducible refine c_gsub ?_
  | with_reducible refine c_BM ?_
  | with_reducible refine c_BM0 ?_
  | with_reducible refine c_and ?_
  | with_reducible refine c_or ?_
  | with_reducible refine c_not ?_
  | with_reducible refine c_andV ?_
  | with_reducible refine c_orV ?_
  | with_reducible refine c_notV ?_
  | with_reducible refine c_if ?_
  | with_reducible refine c_chain ?_
  | with_reducible refine c_next ?_
  | with_reducible refine c_retN ?_
  | with_reducible refine c_yes ?_
  | ((with_reducible show rIn _ _ (V.bl _) _ _ _); first | refine r_inL (by walk_at "sq") rfl (flat_bl _) ?_ | refine r_inL (by walk_at "sq") rfl (by rfl) ?_)
  | with_reducible refine r_I0 ?_
  | with_reducible refine r_U ?_
  | with_reducible refine r_eqI ?_
  | with_reducible refine r_neI ?_
  | with_reducible refine r_eqB ?_
  | with_reducible refine r_neB ?_
  | with_reducible refine r_eqS ?_
  | with_reducible refine r_neS ?_
  | ((with_reducible show rIxL _ _ (V.int (OfNat.ofNat _)) _ _); refine r_ixL (by walk_at "sq") (by walk_at "at") ?_)
  | ((with_reducible show rIxT _ _ (V.int (OfNat.ofNat _)) _ _); refine r_ixT (by walk_at "sq") (by walk_at "at") ?_)
  | ((with_reducible show rI CMul _ _ _ _ _); refine r_I (by first | exact .inl ⟨by omega, by omega⟩ | exact .inr ⟨by omega, by omega⟩) ?_)
  | ((with_reducible show rI CDiv _ _ _ _ _); refine r_I ⟨by omega, by omega⟩ ?_)
  | ((with_reducible show rI (fun _ _ => _) _ _ _ _ _); refine r_I (by first | assumption | omega | decide) ?_)
  | with_reducible refine r_pow18 ?_
  | with_reducible refine r_pow17 ?_
  | ((with_reducible show rSetL _ _ _ _ _); refine r_setL (by walk_at "hp") (by walk_at "ix") ?_; try dsimp only [List.set]; try simp only [upd_upd])
  | ((with_reducible show tyV _ _ _ _ ∧ _); refine ⟨.inl ⟨rfl, _, by walk_at "sq"⟩, ?_⟩)
  | ((with_reducible show rPop _ _ _ _); refine r_pop (by walk_at "hp") ?_)
  | ((with_reducible show rAppend _ _ _ _); refine r_app (by walk_at "hp") (by first | assumption | exact smallLt (by omega) | exact smallLt (by simp <;> omega)) ?_)
  | ((with_reducible show _ ≤ sizeLine ∧ _); refine ⟨small (by simp), ?_⟩)
  | ((with_reducible show V.non = V.non ∧ _); refine ⟨rfl, ?_⟩)
  | with_reducible refine iteT ?_
  | with_reducible refine iteF ?_
  | with_reducible refine ⟨_, rfl, ?_⟩
  | with_reducible refine ⟨_, _, rfl, ?_⟩
  | with_reducible refine Or.inl ⟨_, rfl, ?_⟩
  | with_reducible refine Or.inr ⟨_, rfl, ?_⟩
  | ((with_reducible show ∃ _ _, [_] = [_] ∧ _); first
    | refine ⟨_, _, rfl, Or.inl (by walk_at "sa"), ?_⟩ | refine ⟨_, _, rfl, Or.inr (by walk_at "sa"), ?_⟩
    | refine ⟨_, _, rfl, Or.inl (by exact sql (by walk_at "hp")), ?_⟩ | refine ⟨_, _, rfl, Or.inr (by exact sqt (by walk_at "hp")), ?_⟩))
local macro_rules | `(tactic| walk_at "nw") => `(tactic| (intro _ _))
local macro_rules | `(tactic| walk_at "rdn") => `(tactic| repeat (first | walk_at "rd1" | ((with_reducible show ∀ _ : Addr, _ = none → _); intro _ _)))
local macro_rules | `(tactic| walk_at "rd") => `(tactic| repeat walk_at "rd1")

local macro_rules | `(tactic| walk_at "tp") => `(tactic| first
  | (with_reducible assumption)
  | with_reducible exact Tp.refl _
  | exact Tp.same (by walk_at "sm")
  | exact Tp.new (by walk_at "tp") (by with_reducible assumption)
  | exact Tp.lst (by walk_at "tp") (by walk_at "hp"))
local macro_rules | `(tactic| walk_at "rd1") => `(tactic| first
  | with_reducible refine c_sl ?_
  | with_reducible refine c_noPart ?_
  | with_reducible refine c_part ?_
  | ((with_reducible show rSlL _ _ _ _ _ _); refine r_slL (by walk_at "sq") ?_))
local macro_rules | `(tactic| walk_at "no") => `(tactic| ((with_reducible show if decide _ = true then _ else _); refine i_F (decide_eq_false (by decide +kernel)) ?_))
local macro_rules | `(tactic| walk_at "yes") => `(tactic| ((with_reducible show if decide _ = true then _ else _); refine i_T (decide_eq_true (by first | rfl | decide +kernel)) ?_))
local macro_rules | `(tactic| walk_at "wd") => `(tactic| repeat (first | walk_at "rd1" | walk_at "no" | walk_at "yes"))

local macro_rules | `(tactic| walk_at "rd1") => `(tactic| first
  | with_reducible refine c_gcons ?_
  | with_reducible refine c_gnil ?_
  | with_reducible refine r_ipI ?_
  | ((with_reducible show tAug _ _ _ _ _ _); refine c_aug (by rfl) ?_; try dsimp only [List.set])
  | ((with_reducible show gTup _ _ _ _ _ _ _); refine c_gtup (by walk_at "sq") (by rfl) ?_))

local macro_rules | `(tactic| walk_at "rd1") => `(tactic| first
  | with_reducible refine c_vei ?_
  | with_reducible refine c_ost ?_
  | with_reducible refine c_mko ?_
  | with_reducible refine c_xf ?_)
local macro_rules | `(tactic| walk_at "isi") => `(tactic| first
  | ((with_reducible show rIsiT _ [V.non, _] _ _); refine two_non (by walk_at "hp") ?_)
  | ((with_reducible show rIsiT _ [V.bl _, _] _ _); refine two_bl (by walk_at "hp") ?_)
  | ((with_reducible show rIsiT _ [V.int _, _] _ _); refine two_int (by walk_at "hp") ?_)
  | ((with_reducible show rIsiT _ [V.str _, _] _ _); refine two_str (by walk_at "hp") ?_)
  | ((with_reducible show rIsiT _ [V.ref _, _] _ _); first | refine two_lst (x := .non) (by walk_at "hp") (by walk_at "sa") ?_ | refine two_tup (x := .non) (by walk_at "hp") (by walk_at "sa") ?_)
  | ((with_reducible show rIsi _ [V.non, _] _ _); first | refine r_isi (b := true) (.base .non) (by decide +kernel) ?_ | refine r_isi (b := false) (.base .non) (by decide +kernel) ?_)
  | ((with_reducible show rIsi _ [V.bl _, _] _ _); first | refine r_isi (b := true) (.base (.bl _)) (by decide +kernel) ?_ | refine r_isi (b := false) (.base (.bl _)) (by decide +kernel) ?_)
  | ((with_reducible show rIsi _ [V.int _, _] _ _); first | refine r_isi (b := true) (.base (.int _)) (by decide +kernel) ?_ | refine r_isi (b := false) (.base (.int _)) (by decide +kernel) ?_)
  | ((with_reducible show rIsi _ [V.str _, _] _ _); first | refine r_isi (b := true) (.base (.str _)) (by decide +kernel) ?_ | refine r_isi (b := false) (.base (.str _)) (by decide +kernel) ?_)
  | ((with_reducible show rIsi _ [V.ref _, _] _ _); first | first | refine r_isi (b := true) (ty_lst (by walk_at "sa")) (by decide +kernel) ?_ | refine r_isi (b := false) (ty_lst (by walk_at "sa")) (by decide +kernel) ?_ | first | refine r_isi (b := true) (ty_tup (by walk_at "sa")) (by decide +kernel) ?_ | refine r_isi (b := false) (ty_tup (by walk_at "sa")) (by decide +kernel) ?_))
local macro_rules | `(tactic| walk_at "go") => `(tactic| repeat (first | walk_at "rd1" | walk_at "tf" | walk_at "isi"))

section
variable {P : Program} {w : World} {K : PySem.W.Frag} {mg : Str → Option Value} {base : Heap}
theorem ok_is_between (T : Txt K mg) : FnOk P w K mg base CX0 1 T.a_is_between T.d_is_between ["value", "low", "high"] (spBetween K) := by
  refine T.F_is_between.ok sc_is_between (fun vs H Q E h => ?_) (fun cdv A outer s H vs Q E hr h => ⟨_, (pss_cons (ps_if (PW.pt (pw_or (pt_val (pe_callB call_isi (by rfl) T.z_isinstance (by decide +kernel) (pa_cons (pv 0) (pa_cons (pe_bltn (v := .ty "bool") (by rfl) T.z_bool (by decide +kernel) rfl) pa_nil)))) (pw_or1 (pt_not (pt_val (pe_callB call_isi (by rfl) T.z_isinstance (by decide +kernel) (pa_cons (pv 0) (pa_cons (pe_bltn (v := .ty "int") (by rfl) T.z_int (by decide +kernel) rfl) pa_nil))))))))
      (pss_one (ps_ret pe_bl))
      pss_nil)
      (pss_one (ps_ret (pe_chain op_le op_le (pv 1) (pv 0) (pv 2))))), ?_⟩)
  · first | (obtain ⟨rfl, _⟩ := h; rfl) | (obtain ⟨_, rfl, _⟩ := h; rfl) | (obtain ⟨_, _, rfl, _⟩ := h; rfl) | (obtain ⟨_, _, _, rfl, _⟩ := h; rfl) | (obtain ⟨_, _, _, _, rfl, _⟩ := h; rfl) | (obtain ⟨_, _, _, _, _, rfl, _⟩ := h; rfl) | (obtain ⟨_, _, _, _, _, _, rfl, _⟩ := h; rfl) | (obtain ⟨_, _, _, _, _, _, _, rfl, _⟩ := h; rfl) | (obtain ⟨_, _, _, _, _, _, _, _, rfl, _⟩ := h; rfl) | (obtain ⟨_, _, _, _, _, _, _, _, _, rfl, _⟩ := h; rfl) | (obtain ⟨_, _, _, _, _, _, _, _, _, _, rfl, _⟩ := h; rfl) | (obtain ⟨_, _, _, _, _, _, _, _, _, _, _, rfl, _⟩ := h; rfl) | (obtain ⟨_, _, _, _, _, _, _, _, _, _, _, _, rfl, _⟩ := h; rfl) | (obtain ⟨_, _, _, _, _, _, _, _, _, _, _, _, _, rfl, _⟩ := h; rfl) | (obtain ⟨_, _, _, _, _, _, _, _, _, _, _, _, _, _, rfl, _⟩ := h; rfl)
  · obtain ⟨v, lo, hi, rfl, hv, k⟩ := h
    try dsimp only [cxOf, Cx.nox, Cx.wish]
    refine st_of (σ := [some _, some _, some _]) rfl ?_
    cases hv with
    | non =>
      walk_at "go"
      exact k
    | bl b =>
      walk_at "go"
      exact k
    | int i =>
      walk_at "go"
      refine i_d (fun h0 => ?_) (fun h0 => ?_)
      · walk_at "rd"
        rw [show decide (i ≤ hi) = btw (.int i) lo hi by simp [btw, h0]]
        exact k
      · rw [show false = btw (.int i) lo hi by simp [btw, h0]]
        exact k
    | str x =>
      walk_at "go"
      exact k
    | lst h =>
      walk_at "go"
      exact k
    | tup h =>
      walk_at "go"
      exact k
end

def spIsJ (K : PySem.W.Frag) : Sp := fun vs H Q _ => ∃ (v : V) (g : GT), vs = [v] ∧ GR K H v g ∧ Q (.bl (isJ g).isSome) H
def Raises (C : Addr) (f : Str) (v : V) (H : Hp) (E : XK) : Prop := ∀ d H', H d = none → Same H H' → H' d = some (.xd [(f, v)]) → E (.ref C) (some d) H'
theorem Raises.up {C : Addr} {f : Str} {v : V} {H H1 : Hp} {E : XK} (r : Raises C f v H E) (s : Same H H1) : Raises C f v H1 E := fun d H' hd s' hx => r d H' (s.free hd) (s.trans s') hx
def spTreeC (K : PySem.W.Frag) (C : Addr) : Sp := fun vs H Q E => ∃ (v : V) (c : Int) (g : GT), vs = [v, .int c] ∧ GR K H v g ∧ (fine c g = true → ∀ H', Same H H' → Q .non H') ∧ (fine c g = false → Raises C "tree" v H E)
def spMany (C : Addr) : Sp := fun vs H Q E => ∃ (n : Int), vs = [.int n] ∧ (n ≤ 4 → Q .non H) ∧ (4 < n → Raises C "many" (.int n) H E)
def spPlan (K : PySem.W.Frag) (C D : Addr) : Sp := fun vs H Q E => ∃ (a : Addr) (c : Int) (xs : List V) (gs : List GT), vs = [.ref a, .int c] ∧ SqL K H a xs ∧ GRs K H xs gs ∧ xs.length ≤ 100 ∧ (4 < xs.length → Raises D "many" (.int xs.length) H E) ∧
  (xs.length ≤ 4 → (∀ v, fbad c xs gs = some v → Raises C "tree" v H E) ∧ (fbad c xs gs = none → ∀ H', Same H H' → Q .non H'))
def mu51 : L2.St → Hp → Nat := fun σ _ => match (σ[2]? : Option (Option V)) with
  | some (some (V.int n)) => (8 - n).toNat
  | _ => 0
theorem leaf_btw {K : PySem.W.Frag} {H : Hp} {v : V} {g : GT} {c : Int} (h : GR K H v g) : btw v 0 (c - 1) = leafOk c g := by
  cases h <;> rfl
theorem fbad_nil {c : Int} : ∀ {xs : List V} {gs : List GT} {i : Nat}, xs.length = gs.length → (∀ j g, j < i → gs[j]? = some g → fine c g = true) → fbad c xs gs = fbad c (xs.drop i) (gs.drop i)
  | xs, gs, 0, _, _ => rfl
  | [], _, i + 1, _, _ => by simp [fbad]
  | x :: xs, [], i + 1, h, _ => by cases h
  | x :: xs, g :: gs, i + 1, h, al => by
    rw [fbad, if_pos (al 0 g (Nat.succ_pos _) rfl), List.drop_succ_cons, List.drop_succ_cons]
    exact fbad_nil (Nat.succ.inj h) fun j g hj e => al (j + 1) g (Nat.succ_lt_succ hj) e
section
variable {P : Program} {w : World} {K : PySem.W.Frag} {mg : Str → Option Value} {base : Heap}
theorem ok_BadTree_init (T : Txt K mg) : FnOk P w K mg base CX0 1 T.a_BadTree_init T.d_BadTree_init ["self", "tree"] (spErr T.C_BadTree "tree") := by
  refine T.F_BadTree_init.ok sc_BadTree_init (fun vs H Q E h => ?_) (fun cdv A outer s H vs Q E hr h => ⟨_, (pss_cons (ps_expr (pe_owninit (by rfl) T.g_PagesError T.ga_PagesError T.rd_PagesError T.vV_PagesError (pa_cons (pv 0) (pa_cons pe_str pa_nil))))
      (pss_one (ps_ost (pv 0) (pv 1)))), ?_⟩)
  · first | (obtain ⟨rfl, _⟩ := h; rfl) | (obtain ⟨_, rfl, _⟩ := h; rfl) | (obtain ⟨_, _, rfl, _⟩ := h; rfl) | (obtain ⟨_, _, _, rfl, _⟩ := h; rfl) | (obtain ⟨_, _, _, _, rfl, _⟩ := h; rfl) | (obtain ⟨_, _, _, _, _, rfl, _⟩ := h; rfl) | (obtain ⟨_, _, _, _, _, _, rfl, _⟩ := h; rfl) | (obtain ⟨_, _, _, _, _, _, _, rfl, _⟩ := h; rfl) | (obtain ⟨_, _, _, _, _, _, _, _, rfl, _⟩ := h; rfl) | (obtain ⟨_, _, _, _, _, _, _, _, _, rfl, _⟩ := h; rfl) | (obtain ⟨_, _, _, _, _, _, _, _, _, _, rfl, _⟩ := h; rfl) | (obtain ⟨_, _, _, _, _, _, _, _, _, _, _, rfl, _⟩ := h; rfl) | (obtain ⟨_, _, _, _, _, _, _, _, _, _, _, _, rfl, _⟩ := h; rfl) | (obtain ⟨_, _, _, _, _, _, _, _, _, _, _, _, _, rfl, _⟩ := h; rfl) | (obtain ⟨_, _, _, _, _, _, _, _, _, _, _, _, _, _, rfl, _⟩ := h; rfl)
  · obtain ⟨a, v, rfl, ha, k⟩ := h
    try dsimp only [cxOf, Cx.nox, Cx.wish]
    refine st_of (σ := [some _, some _]) rfl ?_
    walk_at "rd"
    refine ⟨a, T.C_BadTree, _, rfl, by decide, T.oc_BadTree, ha, ?_⟩
    walk_at "rd"
    exact ⟨a, _, rfl, T.oc_BadTree, T.no_BadTree, .inl ⟨ha, fun dx h1 h2 => k dx h1 h2⟩⟩
theorem ok_TooMany_init (T : Txt K mg) : FnOk P w K mg base CX0 1 T.a_TooMany_init T.d_TooMany_init ["self", "many"] (spErr T.C_TooMany "many") := by
  refine T.F_TooMany_init.ok sc_TooMany_init (fun vs H Q E h => ?_) (fun cdv A outer s H vs Q E hr h => ⟨_, (pss_cons (ps_expr (pe_owninit (by rfl) T.g_PagesError T.ga_PagesError T.rd_PagesError T.vV_PagesError (pa_cons (pv 0) (pa_cons pe_str pa_nil))))
      (pss_one (ps_ost (pv 0) (pv 1)))), ?_⟩)
  · first | (obtain ⟨rfl, _⟩ := h; rfl) | (obtain ⟨_, rfl, _⟩ := h; rfl) | (obtain ⟨_, _, rfl, _⟩ := h; rfl) | (obtain ⟨_, _, _, rfl, _⟩ := h; rfl) | (obtain ⟨_, _, _, _, rfl, _⟩ := h; rfl) | (obtain ⟨_, _, _, _, _, rfl, _⟩ := h; rfl) | (obtain ⟨_, _, _, _, _, _, rfl, _⟩ := h; rfl) | (obtain ⟨_, _, _, _, _, _, _, rfl, _⟩ := h; rfl) | (obtain ⟨_, _, _, _, _, _, _, _, rfl, _⟩ := h; rfl) | (obtain ⟨_, _, _, _, _, _, _, _, _, rfl, _⟩ := h; rfl) | (obtain ⟨_, _, _, _, _, _, _, _, _, _, rfl, _⟩ := h; rfl) | (obtain ⟨_, _, _, _, _, _, _, _, _, _, _, rfl, _⟩ := h; rfl) | (obtain ⟨_, _, _, _, _, _, _, _, _, _, _, _, rfl, _⟩ := h; rfl) | (obtain ⟨_, _, _, _, _, _, _, _, _, _, _, _, _, rfl, _⟩ := h; rfl) | (obtain ⟨_, _, _, _, _, _, _, _, _, _, _, _, _, _, rfl, _⟩ := h; rfl)
  · obtain ⟨a, v, rfl, ha, k⟩ := h
    try dsimp only [cxOf, Cx.nox, Cx.wish]
    refine st_of (σ := [some _, some _]) rfl ?_
    walk_at "rd"
    refine ⟨a, T.C_TooMany, _, rfl, by decide, T.oc_TooMany, ha, ?_⟩
    walk_at "rd"
    exact ⟨a, _, rfl, T.oc_TooMany, T.no_TooMany, .inl ⟨ha, fun dx h1 h2 => k dx h1 h2⟩⟩
theorem ok_check_many (T : Txt K mg) : FnOk P w K mg base (L2.CX P w) 3 T.a_check_many T.d_check_many ["many"] (spMany T.C_TooMany) := by
  refine T.F_check_many.okX sc_check_many (fun vs H Q E h => ?_) (fun cdv A outer s H vs Q E hr h => ⟨_, (pss_one (ps_if (pt_cmpR op_gt (pv 0) (pe_glob (v := .int 4) rfl T.g_MOST ⟨_, rfl⟩) (nomark _))
      (pss_one (ps_raise rfl (takes_of rfl rfl rfl rfl) (pmk_oex T.oc_TooMany T.iC_TooMany T.tI_TooMany (ok_TooMany_init T) (hr.mono (by decide)) T.b_TooMany_init .nil pass0 (by rfl) T.g_TooMany (pa_cons (pv 0) pa_nil))))
      pss_nil)), ?_⟩)
  · first | (obtain ⟨rfl, _⟩ := h; rfl) | (obtain ⟨_, rfl, _⟩ := h; rfl) | (obtain ⟨_, _, rfl, _⟩ := h; rfl) | (obtain ⟨_, _, _, rfl, _⟩ := h; rfl) | (obtain ⟨_, _, _, _, rfl, _⟩ := h; rfl) | (obtain ⟨_, _, _, _, _, rfl, _⟩ := h; rfl) | (obtain ⟨_, _, _, _, _, _, rfl, _⟩ := h; rfl) | (obtain ⟨_, _, _, _, _, _, _, rfl, _⟩ := h; rfl) | (obtain ⟨_, _, _, _, _, _, _, _, rfl, _⟩ := h; rfl) | (obtain ⟨_, _, _, _, _, _, _, _, _, rfl, _⟩ := h; rfl) | (obtain ⟨_, _, _, _, _, _, _, _, _, _, rfl, _⟩ := h; rfl) | (obtain ⟨_, _, _, _, _, _, _, _, _, _, _, rfl, _⟩ := h; rfl) | (obtain ⟨_, _, _, _, _, _, _, _, _, _, _, _, rfl, _⟩ := h; rfl) | (obtain ⟨_, _, _, _, _, _, _, _, _, _, _, _, _, rfl, _⟩ := h; rfl) | (obtain ⟨_, _, _, _, _, _, _, _, _, _, _, _, _, _, rfl, _⟩ := h; rfl)
  · obtain ⟨n, rfl, k1, k2⟩ := h
    try dsimp only [cxOf, Cx.nox, Cx.wish]
    refine st_of (σ := [some _]) rfl ?_
    walk_at "rd"
    refine i_d (fun e => ?_) (fun e => ?_)
    · walk_at "rd"
      exact c_raise (k2 e)
    · walk_at "rd"
      exact k1 (by omega)
theorem ok_is_joining (T : Txt K mg) : FnOk P w K mg base CX0 1 T.a_is_joining T.d_is_joining ["value"] (spIsJ K) := by
  refine T.F_is_joining.ok sc_is_joining (fun vs H Q E h => ?_) (fun cdv A outer s H vs Q E hr h => ⟨_, (pss_cons (ps_if (PW.pt (pw_or (pt_not (pt_val (pe_callB call_isi (by rfl) T.z_isinstance (by decide +kernel) (pa_cons (pv 0) (pa_cons (pe_bltn (v := .ty "tuple") (by rfl) T.z_tuple (by decide +kernel) rfl) pa_nil))))) (pw_or1 (pt_cmpR op_ne (pe_callB call_len_seq (by rfl) T.z_len PySem.boot_len (pa_cons (pv 0) pa_nil)) pe_int (nomark _)))))
      (pss_one (ps_ret pe_bl))
      pss_nil)
      (pss_one (ps_ret (pe_and (pe_callB call_isi (by rfl) T.z_isinstance (by decide +kernel) (pa_cons (pe_ix ix_tup (pv 0) pe_int (fun _ _ => rfl)) (pa_cons (pe_bltn (v := .ty "str") (by rfl) T.z_str (by decide +kernel) rfl) pa_nil))) (pe_one (pe_cmpR op_in_seq (pe_ix ix_tup (pv 0) pe_int (fun _ _ => rfl)) (pe_glob (v := .ref T.c_WORDS) rfl T.g_WORDS rfl) (by rfl))))))), ?_⟩)
  · first | (obtain ⟨rfl, _⟩ := h; rfl) | (obtain ⟨_, rfl, _⟩ := h; rfl) | (obtain ⟨_, _, rfl, _⟩ := h; rfl) | (obtain ⟨_, _, _, rfl, _⟩ := h; rfl) | (obtain ⟨_, _, _, _, rfl, _⟩ := h; rfl) | (obtain ⟨_, _, _, _, _, rfl, _⟩ := h; rfl) | (obtain ⟨_, _, _, _, _, _, rfl, _⟩ := h; rfl) | (obtain ⟨_, _, _, _, _, _, _, rfl, _⟩ := h; rfl) | (obtain ⟨_, _, _, _, _, _, _, _, rfl, _⟩ := h; rfl) | (obtain ⟨_, _, _, _, _, _, _, _, _, rfl, _⟩ := h; rfl) | (obtain ⟨_, _, _, _, _, _, _, _, _, _, rfl, _⟩ := h; rfl) | (obtain ⟨_, _, _, _, _, _, _, _, _, _, _, rfl, _⟩ := h; rfl) | (obtain ⟨_, _, _, _, _, _, _, _, _, _, _, _, rfl, _⟩ := h; rfl) | (obtain ⟨_, _, _, _, _, _, _, _, _, _, _, _, _, rfl, _⟩ := h; rfl) | (obtain ⟨_, _, _, _, _, _, _, _, _, _, _, _, _, _, rfl, _⟩ := h; rfl)
  · obtain ⟨v, g, rfl, hg, k⟩ := h
    try dsimp only [cxOf, Cx.nox, Cx.wish]
    refine st_of (σ := [some _]) rfl ?_
    cases hg with
    | non =>
      walk_at "go"
      exact k
    | bl b =>
      walk_at "go"
      exact k
    | int i =>
      walk_at "go"
      exact k
    | str x =>
      walk_at "go"
      exact k
    | lst h r =>
      walk_at "go"
      exact k
    | tup h r =>
      rename_i a xs ts
      have hl := r.len
      walk_at "go"
      refine i_n (fun e => ?_) (fun e => ?_)
      · walk_at "rd"
        have q : isJ (.tup ts) = none := by
          unfold isJ
          split
          · rename_i w l r2 e2
            cases e2
            have h3 : xs.length = 3 := by simpa using hl
            exact absurd (by omega) e
          · rfl
        rw [q] at k
        exact k
      · have e3 : xs.length = 3 := by omega
        rcases r with _ | ⟨hx, _ | ⟨hy, _ | ⟨hz, _ | ⟨hw, r⟩⟩⟩⟩
        · cases e3
        · cases e3
        · cases e3
        · rename_i x gx y gy z gz
          walk_at "rd"
          have no : (∀ w : Str, gx ≠ .str w) → isJ (.tup [gx, gy, gz]) = none := fun n => by
            unfold isJ
            split
            · rename_i w l r2 e2
              cases e2
              exact absurd rfl (n _)
            · rfl
          cases hx with
          | str t =>
            walk_at "go"
            refine r_inT (T.l_WORDS _) rfl (by rfl) ?_
            rw [if_neg Bool.false_ne_true, in_words]
            have q : (isJ (.tup [.str t, gy, gz])).isSome = good1 t := by
              show (if good1 t = true then some (gy, gz) else none).isSome = good1 t
              cases good1 t <;> rfl
            rw [← q]
            exact k
          | non =>
            rw [no (fun _ z => nomatch z)] at k
            walk_at "go"
            exact k
          | bl b =>
            rw [no (fun _ z => nomatch z)] at k
            walk_at "go"
            exact k
          | int i =>
            rw [no (fun _ z => nomatch z)] at k
            walk_at "go"
            exact k
          | lst h2 r2 =>
            rw [no (fun _ z => nomatch z)] at k
            walk_at "go"
            exact k
          | tup h2 r2 =>
            rw [no (fun _ z => nomatch z)] at k
            walk_at "go"
            exact k
        · simp at e3
theorem ok_check_tree (T : Txt K mg) : FnOk P w K mg base (L2.CX P w) 3 T.a_check_tree T.d_check_tree ["tree", "count"] (spTreeC K T.C_BadTree) := by
  refine T.F_check_tree.okX sc_check_tree (fun vs H Q E h => ?_) (fun cdv A outer s H vs Q E hr h => ⟨_, (pss_cons (ps_set (i := 2) sc_check_tree.nd rfl (.inl rfl) pe_int)
      (pss_cons (ps_set (i := 3) sc_check_tree.nd rfl (.inl rfl) (pe_lst (pa_cons (pv 0) pa_nil)))
      (pss_one (ps_while (passes_of rfl) (pt_truth (pv 3) (by intro _; rfl))
      (pss_cons (ps_set (i := 4) sc_check_tree.nd rfl (.inl rfl) (pe_bm0 PySem.F.plainAttrs_list PySem.F.slot_list_pop PySem.F.type_list_pop mt_pop (pv 3)))
      (pss_cons (ps_aug (i := 2) sc_check_tree.nd rfl (.inl rfl) pe_int ip_add)
      (pss_cons (ps_if (pt_val (pe_call (ok_is_joining T) (hr.mono (by decide)) (by rfl) T.g_is_joining T.F_is_joining.kp T.b_is_joining .nil pass0 (pa_cons (pv 4) pa_nil)))
      (pss_one (ps_expr (pe_bm PySem.F.plainAttrs_list PySem.F.slot_list_extend PySem.F.type_list_extend mt_extend (pv 3) (pa_cons (pe_lst (pa_cons (pe_ix ix_tup (pv 4) pe_int (fun _ _ => rfl)) (pa_cons (pe_ix ix_tup (pv 4) pe_int (fun _ _ => rfl)) pa_nil))) pa_nil))))
      (pss_one (ps_if (pt_not (pt_val (pe_call (ok_is_between T) (hr.mono (by decide)) (by rfl) T.g_is_between T.F_is_between.kp T.b_is_between .nil pass0 (pa_cons (pv 4) (pa_cons pe_int (pa_cons (pe_op op_sub (pv 1) pe_int) pa_nil))))))
      (pss_one (ps_raise rfl (takes_of rfl rfl rfl rfl) (pmk_oex T.oc_BadTree T.iC_BadTree T.tI_BadTree (ok_BadTree_init T) (hr.mono (by decide)) T.b_BadTree_init .nil pass0 (by rfl) T.g_BadTree (pa_cons (pv 0) pa_nil))))
      pss_nil)))
      (pss_one (ps_if (pt_cmpR op_gt (pv 2) (pe_glob (v := .int 7) rfl T.g_MOST_NODES ⟨_, rfl⟩) (nomark _))
      (pss_one (ps_raise rfl (takes_of rfl rfl rfl rfl) (pmk_oex T.oc_BadTree T.iC_BadTree T.tI_BadTree (ok_BadTree_init T) (hr.mono (by decide)) T.b_BadTree_init .nil pass0 (by rfl) T.g_BadTree (pa_cons (pv 0) pa_nil))))
      pss_nil))))))))), ?_⟩)
  · first | (obtain ⟨rfl, _⟩ := h; rfl) | (obtain ⟨_, rfl, _⟩ := h; rfl) | (obtain ⟨_, _, rfl, _⟩ := h; rfl) | (obtain ⟨_, _, _, rfl, _⟩ := h; rfl) | (obtain ⟨_, _, _, _, rfl, _⟩ := h; rfl) | (obtain ⟨_, _, _, _, _, rfl, _⟩ := h; rfl) | (obtain ⟨_, _, _, _, _, _, rfl, _⟩ := h; rfl) | (obtain ⟨_, _, _, _, _, _, _, rfl, _⟩ := h; rfl) | (obtain ⟨_, _, _, _, _, _, _, _, rfl, _⟩ := h; rfl) | (obtain ⟨_, _, _, _, _, _, _, _, _, rfl, _⟩ := h; rfl) | (obtain ⟨_, _, _, _, _, _, _, _, _, _, rfl, _⟩ := h; rfl) | (obtain ⟨_, _, _, _, _, _, _, _, _, _, _, rfl, _⟩ := h; rfl) | (obtain ⟨_, _, _, _, _, _, _, _, _, _, _, _, rfl, _⟩ := h; rfl) | (obtain ⟨_, _, _, _, _, _, _, _, _, _, _, _, _, rfl, _⟩ := h; rfl) | (obtain ⟨_, _, _, _, _, _, _, _, _, _, _, _, _, _, rfl, _⟩ := h; rfl)
  · obtain ⟨v, c, g, rfl, hg, k1, k2⟩ := h
    try dsimp only [cxOf, Cx.nox, Cx.wish]
    refine st_of (σ := [some _, some _, none, none, none]) rfl ?_
    walk_at "rd"
    intro l hl
    have s0 := same_new (o := .lst [v]) (Same.refl H) hl
    have g0 : (upd H l (.lst [v])) l = some (.lst [v]) := upd_same
    generalize upd H l (.lst [v]) = H0 at s0 g0
    walk_at "rd"
    refine while_by (fun σ G => ∃ (n : Nat) (vs : List V) (gs : List GT) (e4 : Option V), σ = [some v, some (.int c), some (.int n), some (.ref l), e4] ∧ Same H G ∧ G l = some (.lst vs) ∧ GRs K (Aw l G) vs gs ∧ n ≤ 7 ∧ vs.length ≤ n + 1 ∧ n + (gs.map cnt).sum = cnt g ∧ (gs.all (okT c) = okT c g)) mu51 ?_ ?_ (fun σ H Q Q' hq ⟨v, e, k, t, q⟩ => ⟨v, e, k, t, hq _ _ q⟩)
    · exact ⟨0, [v], [g], _, rfl, s0, g0, .cons (hg.same (Aw.up s0 hl)) .nil, by decide, by simp, by simp, by simp⟩
    · rintro σ G ⟨n, vs, gs, e4, rfl, sG, gl, gr, hn, hvl, hsum, hall⟩
      walk_at "rd"
      refine ⟨!vs.isEmpty, .inl ⟨vs, sql gl, rfl⟩, ?_⟩
      rcases List.eq_nil_or_concat gs with rfl | ⟨gs', gy, rfl⟩
      · cases gr
        refine i_F rfl ?_
        walk_at "rd"
        refine k1 ?_ G sG
        simp at hsum hall
        simp [fine, hall]
        omega
      · rw [List.concat_eq_append] at gr hsum hall
        obtain ⟨ys, y, rfl, gr1, gy1⟩ := gr.snoc
        refine i_T (by simp) ?_
        simp only [List.map_append, List.sum_append, List.map_cons, List.map_nil, List.sum_cons, List.sum_nil, List.all_append, List.all_cons, List.all_nil, Bool.and_true] at hsum hall
        have gl2 : (upd G l (.lst ys)) l = some (.lst ys) := upd_same
        have sG2 : Same H (upd G l (.lst ys)) := same_mut sG hl
        have aw : Same (Aw l G) (Aw l (upd G l (.lst ys))) := fun b o hb => by
          refine Aw.of ?_ (Aw.ne hb)
          rw [upd_ne (Aw.ne hb)]
          exact Aw.to _ _ hb
        have gr2 := gr1.same aw
        have gy3 := gy1.same aw
        have gy2 := gy3.same Aw.to
        walk_at "rd"
        generalize upd G l (.lst ys) = G2 at gl2 sG2 gr2 gy2 gy3 ⊢
        walk_at "rd"
        refine ⟨y, gy, rfl, gy2, ?_⟩
        walk_at "rd"
        have big : ∀ {G : Hp}, Same H G → 7 < n + 1 → Raises T.C_BadTree "tree" v G E := fun s h => (k2 (by
          have := cnt_pos gy
          simp only [fine, Bool.and_eq_false_iff, decide_eq_false_iff_not]
          right
          omega)).up s
        have mu_lt : ∀ (e4 : Option V) (G : Hp) (e3 : Option V) (G' : Hp), n ≤ 7 → mu51 [some v, some (.int c), some (.int ((n : Int) + 1)), some (.ref l), e4] G < mu51 [some v, some (.int c), some (.int n), some (.ref l), e3] G' := fun e4 G e3 G' h => by
          show (8 - ((n : Int) + 1)).toNat < (8 - (n : Int)).toNat
          omega
        simp at hvl
        cases hj : isJ gy with
        | some p =>
          obtain ⟨gl', gr'⟩ := p
          obtain ⟨w, rfl, gw⟩ := isJ_eq hj
          rw [cnt_J hj] at hsum
          rw [okT_J hj] at hall
          refine i_T rfl ?_
          cases gy3 with
          | tup ht hr3 =>
            rcases hr3 with _ | ⟨hx, _ | ⟨hy, _ | ⟨hz, _ | ⟨hw, r⟩⟩⟩⟩
            rename_i ya x1 x2 x3
            have ht1 := same_tup Aw.to ht
            walk_at "rd"
            intro q hq
            have ht2 := same_tup (same_new (o := .lst [x2, x3]) (Same.refl G2) hq) ht1
            have gl3 := (upd_ne (o := .lst [x2, x3]) (ne_of_none gl2 hq)).trans gl2
            have aw2 : Same (Aw l G2) (Aw l (upd (upd G2 q (.lst [x2, x3])) l (.lst (ys ++ [x2, x3])))) := (Aw.same (same_new (Same.refl _) hq)).trans Aw.mut
            have sG3 : Same H (upd (upd G2 q (.lst [x2, x3])) l (.lst (ys ++ [x2, x3]))) := same_mut (same_new sG2 hq) hl
            refine ⟨l, q, ys, [x2, x3], rfl, rfl, gl3, upd_same, small (by simp; omega), ?_⟩
            walk_at "rd"
            refine i_d (fun h7 => ?_) (fun h7 => ?_)
            · walk_at "rd"
              exact c_raise (big sG3 (by omega))
            · walk_at "rd"
              refine ⟨⟨n + 1, ys ++ [x2, x3], gs' ++ [gl', gr'], _, rfl, sG3, upd_same, (gr2.app (.cons hy (.cons hz .nil))).same aw2, by omega, by simp; omega, ?_, ?_⟩, mu_lt _ _ _ _ hn⟩
              · simp only [List.map_append, List.sum_append, List.map_cons, List.map_nil, List.sum_cons, List.sum_nil]
                omega
              · simp only [List.all_append, List.all_cons, List.all_nil, Bool.and_true]
                exact hall
        | none =>
          rw [cnt_N hj] at hsum
          rw [okT_N hj] at hall
          refine i_F rfl ?_
          walk_at "rd"
          refine ⟨y, 0, c - 1, rfl, gy2.knd, ?_⟩
          rw [leaf_btw gy2]
          walk_at "rd"
          cases hlf : leafOk c gy with
          | false =>
            refine i_T rfl ?_
            walk_at "rd"
            rw [hlf] at hall
            exact c_raise ((k2 (by
              simp only [fine, Bool.and_eq_false_iff]
              left
              rw [← hall]
              simp)).up sG2)
          | true =>
            rw [hlf, Bool.and_true] at hall
            refine i_F rfl ?_
            walk_at "rd"
            refine i_d (fun h7 => ?_) (fun h7 => ?_)
            · walk_at "rd"
              exact c_raise (big sG2 (by omega))
            · walk_at "rd"
              exact ⟨⟨n + 1, ys, gs', _, rfl, sG2, gl2, gr2, by omega, by omega, by omega, hall⟩, mu_lt _ _ _ _ hn⟩
theorem ok_check_plan (T : Txt K mg) : FnOk P w K mg base (L2.CX P w) 4 T.a_check_plan T.d_check_plan ["plan", "count"] (spPlan K T.C_BadTree T.C_TooMany) := by
  refine T.F_check_plan.okX sc_check_plan (fun vs H Q E h => ?_) (fun cdv A outer s H vs Q E hr h => ⟨_, (pss_cons (ps_expr (pe_callS (ok_check_many T) (hr.mono (by decide)) (by rfl) T.g_check_many T.F_check_many.kp T.b_check_many (fun σ => passAt (takes_of rfl rfl rfl rfl) σ) (pa_cons (pe_callB call_len_seq (by rfl) T.z_len PySem.boot_len (pa_cons (pv 0) pa_nil)) pa_nil)))
      (pss_one (ps_for (passes_of rfl) rfl (pi_list (pv 0)) (pg_name (i := 2) sc_check_plan.nd rfl (.inl rfl))
      (pss_one (ps_expr (pe_callS (ok_check_tree T) (hr.mono (by decide)) (by rfl) T.g_check_tree T.F_check_tree.kp T.b_check_tree (fun σ => passAt (takes_of rfl rfl rfl rfl) σ) (pa_cons (pv 2) (pa_cons (pv 1) pa_nil)))))))), ?_⟩)
  · first | (obtain ⟨rfl, _⟩ := h; rfl) | (obtain ⟨_, rfl, _⟩ := h; rfl) | (obtain ⟨_, _, rfl, _⟩ := h; rfl) | (obtain ⟨_, _, _, rfl, _⟩ := h; rfl) | (obtain ⟨_, _, _, _, rfl, _⟩ := h; rfl) | (obtain ⟨_, _, _, _, _, rfl, _⟩ := h; rfl) | (obtain ⟨_, _, _, _, _, _, rfl, _⟩ := h; rfl) | (obtain ⟨_, _, _, _, _, _, _, rfl, _⟩ := h; rfl) | (obtain ⟨_, _, _, _, _, _, _, _, rfl, _⟩ := h; rfl) | (obtain ⟨_, _, _, _, _, _, _, _, _, rfl, _⟩ := h; rfl) | (obtain ⟨_, _, _, _, _, _, _, _, _, _, rfl, _⟩ := h; rfl) | (obtain ⟨_, _, _, _, _, _, _, _, _, _, _, rfl, _⟩ := h; rfl) | (obtain ⟨_, _, _, _, _, _, _, _, _, _, _, _, rfl, _⟩ := h; rfl) | (obtain ⟨_, _, _, _, _, _, _, _, _, _, _, _, _, rfl, _⟩ := h; rfl) | (obtain ⟨_, _, _, _, _, _, _, _, _, _, _, _, _, _, rfl, _⟩ := h; rfl)
  · obtain ⟨a, c, xs, gs, rfl, hS, hg, hl, k1, k2⟩ := h
    try dsimp only [cxOf, Cx.nox, Cx.wish]
    refine st_of (σ := [some _, some _, none]) rfl ?_
    have hlen := hg.len
    walk_at "rd"
    refine c_callS ?_
    walk_at "rd"
    refine ⟨xs.length, rfl, fun h4 => ?_, fun h4 => k1 (by omega)⟩
    obtain ⟨k2, k3⟩ := k2 (by omega)
    walk_at "rd"
    with_reducible refine c_forList ?_
    walk_at "rd"
    refine ⟨⟨_, hS⟩, for_list (xs := xs) (fun i σ G => Same H G ∧ (∃ e2, σ = [some (.ref a), some (.int c), e2]) ∧ ∀ j g, j < i → gs[j]? = some g → fine c g = true) ?_ ?_ ?_ ?_⟩
    · exact ⟨Same.refl _, ⟨_, rfl⟩, fun j g hj => (Nat.not_lt_zero _ hj).elim⟩
    · rintro i σ G _ ⟨sG, _⟩
      exact seq' hS sG
    · rintro i x σ G hi ⟨sG, ⟨e2, rfl⟩, al⟩
      obtain ⟨g, eg, hgx⟩ := hg.get hi
      obtain ⟨hi1, hx1⟩ := List.getElem?_eq_some_iff.mp hi
      obtain ⟨hg1, hgg⟩ := List.getElem?_eq_some_iff.mp eg
      walk_at "rd"
      refine c_callS ?_
      walk_at "rd"
      refine ⟨x, c, g, rfl, hgx.same sG, fun ok G2 s2 => ?_, fun bad => (k2 x ?_).up sG⟩
      · walk_at "rd"
        refine ⟨sG.trans s2, ⟨_, rfl⟩, fun j g2 hj e2 => ?_⟩
        by_cases hji : j = i
        · subst hji
          rw [eg] at e2
          cases e2
          exact ok
        · exact al j g2 (by omega) e2
      · rw [fbad_nil (i := i) hlen al, List.drop_eq_getElem_cons hi1, List.drop_eq_getElem_cons hg1, hx1, hgg, fbad, if_neg (by rw [bad]; decide)]
    · rintro σ G ⟨sG, ⟨e2, rfl⟩, al⟩
      walk_at "rd"
      refine k3 ?_ G sG
      rw [fbad_nil (i := xs.length) hlen al, List.drop_length, hlen, List.drop_length, fbad]
      intro _ _ _ _ h
      cases h
end

def spTwig : Sp := fun vs H Q _ => ∃ (S L : Addr) (ns : List Int) (c m : Int), vs = [.ref S, .int c, .int m] ∧ Strm S L ns H ∧ 0 < c ∧ c ≤ 20 ∧ 0 < m ∧ m ≤ 20 ∧ ∀ p ls ms H', Ex S H H' → Strm S L ns H' → TwR (Nw H H') p ls ms → (∀ i ∈ ls, (i : Int) < c) → (ls.length : Int) ≤ m → GoodM ls.length ms → (∀ lv mgA, H' p = some (.lst [.ref lv, .ref mgA]) → lv ≠ L ) → Q (.ref p) H'
section
variable {P : Program} {w : World} {K : PySem.W.Frag} {mg : Str → Option Value} {base : Heap}
theorem ok_twig (T : Txt K mg) : FnOk P w K mg base CX0 2 T.a_twig T.d_twig ["_law_stream_here", "_law_count", "_law_most"] (spTwig) := by
  refine T.F_twig.ok sc__law_twig (fun vs H Q E h => ?_) (fun cdv A outer s H vs Q E hr h => ⟨_, (pss_cons (ps_setLc (i := 4) (own := [("_law_k", 3)]) (g := gName 3) (tt := tYes) rfl sc__law_twig.nd rfl rfl (sw_true rfl rfl rfl (by decide +kernel)) (pi_range1 (by rfl) T.z_range (pa_cons (pe_op op_add pe_int (pe_call (ok_draw T) (hr.mono (by decide)) (by rfl) T.g_draw T.F_draw.kp T.b_draw .nil pass0 (pa_cons (pv 0) (pa_cons (pv 2) pa_nil)))) pa_nil)) (blkOk_by (own := [("_law_k", 3)]) (N := N__law_twig) (sc := defScope s__law_twig) (by decide +kernel)) (fun _ _ _ _ _ => pg_name (i := 3) sc__law_twig.nd rfl (Or.inl rfl)) (fun _ _ _ _ _ => pts_nil) (fun _ _ _ _ _ => (pe_call (ok_draw T) (hr.mono (by decide)) (by rfl) T.g_draw T.F_draw.kp T.b_draw .nil pass0 (pa_cons (pv 0) (pa_cons (pv 1) pa_nil)))))
      (pss_cons (ps_set (i := 5) sc__law_twig.nd rfl (.inl rfl) (pe_lst pa_nil))
      (pss_cons (ps_for PassesOwn.never rfl (pi_range1 (by rfl) T.z_range (pa_cons (pe_op op_sub (pe_callB call_len_seq (by rfl) T.z_len PySem.boot_len (pa_cons (pv 4) pa_nil)) pe_int) pa_nil)) (pg_name (i := 3) sc__law_twig.nd rfl (.inl rfl))
      (pss_one (ps_expr (pe_bm PySem.F.plainAttrs_list PySem.F.slot_list_append PySem.F.type_list_append mt_append (pv 5) (pa_cons (pe_lst (pa_cons (pe_call (ok_draw T) (hr.mono (by decide)) (by rfl) T.g_draw T.F_draw.kp T.b_draw .nil pass0 (pa_cons (pv 0) (pa_cons (pe_op op_sub (pe_op op_sub (pe_callB call_len_seq (by rfl) T.z_len PySem.boot_len (pa_cons (pv 4) pa_nil)) pe_int) (pv 3)) pa_nil))) (pa_cons (pe_ix ix_list (pe_lst (pa_cons pe_str (pa_cons pe_str (pa_cons pe_str pa_nil)))) (pe_call (ok_draw T) (hr.mono (by decide)) (by rfl) T.g_draw T.F_draw.kp T.b_draw .nil pass0 (pa_cons (pv 0) (pa_cons pe_int pa_nil))) (fun _ _ => rfl)) pa_nil))) pa_nil)))))
      (pss_one (ps_ret (pe_lst (pa_cons (pv 4) (pa_cons (pv 5) pa_nil)))))))), ?_⟩)
  · first | (obtain ⟨rfl, _⟩ := h; rfl) | (obtain ⟨_, rfl, _⟩ := h; rfl) | (obtain ⟨_, _, rfl, _⟩ := h; rfl) | (obtain ⟨_, _, _, rfl, _⟩ := h; rfl) | (obtain ⟨_, _, _, _, rfl, _⟩ := h; rfl) | (obtain ⟨_, _, _, _, _, rfl, _⟩ := h; rfl) | (obtain ⟨_, _, _, _, _, _, rfl, _⟩ := h; rfl) | (obtain ⟨_, _, _, _, _, _, _, rfl, _⟩ := h; rfl) | (obtain ⟨_, _, _, _, _, _, _, _, rfl, _⟩ := h; rfl) | (obtain ⟨_, _, _, _, _, _, _, _, _, rfl, _⟩ := h; rfl) | (obtain ⟨_, _, _, _, _, _, _, _, _, _, rfl, _⟩ := h; rfl) | (obtain ⟨_, _, _, _, _, _, _, _, _, _, _, rfl, _⟩ := h; rfl) | (obtain ⟨_, _, _, _, _, _, _, _, _, _, _, _, rfl, _⟩ := h; rfl) | (obtain ⟨_, _, _, _, _, _, _, _, _, _, _, _, _, rfl, _⟩ := h; rfl) | (obtain ⟨_, _, _, _, _, _, _, _, _, _, _, _, _, _, rfl, _⟩ := h; rfl)
  · obtain ⟨S, L, ns, c, m, rfl, st, c0, c1, m0, m1, k⟩ := h
    obtain ⟨_, _, _, eS, _⟩ := id st.at_
    try dsimp only [cxOf, Cx.nox, Cx.wish]
    refine st_of (σ := [some _, some _, some _, none, none, none]) rfl ?_
    walk_at "rd"
    with_reducible refine c_lcR ?_
    walk_at "rd"
    refine use_draw st (by omega) (by omega) (fun r H1 r0 r1 x1 st1 => ?_)
    walk_at "rd"
    refine ⟨by omega, by omega, fun D hD => lc_range (lo := 0) (n := (1 + r).toNat) (fun i G => Strm S L ns G ∧ Ex S H G ∧ ∃ ls : List Nat, ls.length = i ∧ (∀ l ∈ ls, (l : Int) < c) ∧ G D = some (.lst (nts ls))) ?_ ?_ ?_⟩
    · exact ⟨st1.new hD, x1.new hD, [], rfl, fun l hl => (List.not_mem_nil hl).elim, upd_same⟩
    · rintro i G hi ⟨stG, xG, ls, hls, hlc, gD⟩
      have nDS := st1.neS hD
      have nDL := st1.neL hD
      walk_at "rd"
      refine ⟨rfl, ?_⟩
      walk_at "rd"
      refine use_draw stG c0 (by omega) (fun z G2 z0 z1 x2 st2 => ?_)
      refine ⟨_, x2 _ _ nDS gD, smallLt (by rw [nts_len]; omega), st2.upd nDS nDL, ?_, ls ++ [z.toNat], by simp [hls], fun l hl => ?_, ?_⟩
      · exact (xG.trans x2).mut (x1.free nDS hD)
      · rcases List.mem_append.mp hl with hl | hl
        · exact hlc l hl
        · rw [List.mem_singleton.mp hl]
          omega
      · rw [upd_same, nts_snoc _ _ z0]
    · rintro G ⟨stG, xG, ls, hls, hlc, gD⟩
      walk_at "rd"
      intro M hM
      have nDM : D ≠ M := ne_of_none gD hM
      have st3 := stG.new (o := .lst []) hM
      have x3 := xG.new (o := .lst []) hM
      have gD3 : (upd G M (.lst [])) D = some (.lst (nts ls)) := (upd_ne nDM).trans gD
      have gM3 : (upd G M (.lst [])) M = some (.lst []) := upd_same
      have nMS := stG.neS hM
      have nML := stG.neL hM
      have hM0 := xG.free nMS hM
      have nDS := st1.neS hD
      generalize upd G M (.lst []) = G3 at st3 x3 gD3 gM3
      have ln := nts_len ls
      have gl : SqL K G3 D (nts ls) := sql gD3
      walk_at "rd"
      with_reducible refine c_rng1 ?_
      walk_at "rd"
      refine ⟨by omega, by omega, for_range (lo := 0) (n := (((nts ls).length : Int) - 1).toNat) (fun i σ G => ∃ (e3 : Option V) (us : List V) (ms : List (Nat × Wd)), σ = [some (.ref S), some (.int c), some (.int m), e3, some (.ref D), some (.ref M)] ∧ Strm S L ns G ∧ Ex S H G ∧ G D = some (.lst (nts ls)) ∧ G M = some (.lst us) ∧ MRs (Aw M (Nw H G)) us ms ∧ ms.length = i ∧ GoodP ls.length ms) ?_ ?_ ?_⟩
      · exact ⟨_, [], [], rfl, st3, x3, gD3, gM3, .nil, rfl, fun j s e => nomatch e⟩
      · rintro i σ G hi ⟨e3, us, ms, rfl, stG, xG, gD, gM, mr, hms, gp⟩
        have gl : SqL K G D (nts ls) := sql gD
        walk_at "rd"
        refine use_draw stG (by omega) (by omega) (fun d G2 d0 d1 x2 st2 => ?_)
        have gM2 := x2 _ _ nMS gM
        have gD2 := x2 _ _ nDS gD
        have mr2 := mr.same (Aw.same (Nw.ex eS x2))
        walk_at "rd"
        intro q hq
        walk_at "rd"
        have nqM : M ≠ q := ne_of_none gM2 hq
        have gM3 := (upd_ne (o := .lst [.str "and", .str "or", .str "less"]) nqM).trans gM2
        have gD3 := (upd_ne (o := .lst [.str "and", .str "or", .str "less"]) (ne_of_none gD2 hq)).trans gD2
        have gq : (upd G2 q (.lst [.str "and", .str "or", .str "less"])) q = some (.lst [.str "and", .str "or", .str "less"]) := upd_same
        have mr3 := mr2.same (Aw.same (Nw.same (same_new (o := .lst [.str "and", .str "or", .str "less"]) (Same.refl _) hq)))
        refine use_draw (st2.new hq) (by decide) (by decide) (fun d2 G4 e0 e1 x4 st4 => ?_)
        have gM4 := x4 _ _ nMS gM3
        have gD4 := x4 _ _ nDS gD3
        have gq4 := x4 _ _ (st2.neS hq) gq
        have mr4 := mr3.same (Aw.same (Nw.ex eS x4))
        obtain ⟨wd, hw⟩ := wd_at e0 e1
        refine r_ixL (sql gq4) hw ?_
        walk_at "rd"
        intro t ht
        have nMt : M ≠ t := ne_of_none gM4 ht
        have gM5 := (upd_ne (o := .lst [.int d, .str wd.s]) nMt).trans gM4
        have gD5 := (upd_ne (o := .lst [.int d, .str wd.s]) (ne_of_none gD4 ht)).trans gD4
        have gt : (upd G4 t (.lst [.int d, .str wd.s])) t = some (.lst [.int d, .str wd.s]) := upd_same
        have mr5 := mr4.same (Aw.same (Nw.same (same_new (o := .lst [.int d, .str wd.s]) (Same.refl _) ht)))
        have st5 := st4.new (o := .lst [.int d, .str wd.s]) ht
        have x5 := (((xG.trans x2).new hq).trans x4).new (o := .lst [.int d, .str wd.s]) ht
        have hmu := mr.len
        have gt2 : (Aw M (Nw H (upd G4 t (.lst [.int d, .str wd.s])))) t = some (.lst [.int ((d.toNat : Nat) : Int), .str wd.s]) := by
          rw [Int.toNat_of_nonneg d0]
          exact Aw.of (Nw.of gt ((((xG.trans x2).new hq).trans x4).free (st4.neS ht) ht)) nMt.symm
        generalize upd G4 t (.lst [.int d, .str wd.s]) = G5 at gM5 gD5 mr5 st5 x5 gt2
        have hsz : us.length < sizeLine := smallLt (by omega)
        walk_at "rd"
        exact ⟨_, us ++ [.ref t], ms ++ [(d.toNat, wd)], rfl, st5.upd nMS nML, x5.mut hM0, (upd_ne nDM).trans gD5, upd_same, (mr5.snoc gt2).same Nw.at, by simp [hms], gp.snoc (by omega)⟩
      · rintro σ G ⟨e3, us, ms, rfl, stG, xG, gD, gM, mr, hms, gp⟩
        walk_at "rd"
        intro p hp
        have npS := stG.neS hp
        refine k p ls ms _ (xG.new hp) (stG.new hp) ⟨D, M, us, Nw.of upd_same (xG.free npS hp), Nw.of ((upd_ne (ne_of_none gD hp)).trans gD) (x1.free nDS hD), Nw.of ((upd_ne (ne_of_none gM hp)).trans gM) hM0, (mr.same Aw.to).same (Nw.same (same_new (Same.refl _) hp))⟩ hlc (by omega) ⟨by omega, gp⟩ (fun lv mgA e => by
          rw [upd_same] at e
          cases e
          exact st1.neL hD)
end

def spGrownG (K : PySem.W.Frag) : Sp := fun vs H Q _ => ∃ (p : Addr) (B : Hp) (gs : List GT) (ms : List (Nat × Wd)), vs = [.ref p] ∧ (∀ a, H a = none → B a = none) ∧ TwG K (Nw B H) p gs ms ∧ GoodM gs.length ms ∧ gs.length ≤ 20 ∧ ∀ v t H', Same H H' → GR K (Nw B H') v t → mrgs gnd gs ms = [t] → Q v H'
theorem atP {α : Type} {us r : List α} {x : α} {j : Int} (h : j = (us.length : Int)) : atI (us ++ x :: r) j = some x := by
  subst h
  exact atI_nat (by simp)
theorem atP1 {α : Type} {us r : List α} {x y : α} {j : Int} (h : j = (us.length : Int) + 1) : atI (us ++ x :: y :: r) j = some y := by
  subst h
  exact atI_nat (j := us.length + 1) (by simp)
theorem cut_two {us r : List V} {x y : V} {j : Int} (h : j = (us.length : Int) + 2) : cutV (us ++ x :: y :: r) (some j) none = r := by
  have e : us ++ x :: y :: r = (us ++ [x, y]) ++ r := by simp
  rw [e]
  exact cut_from (by simp [h])
section
variable {P : Program} {w : World} {K : PySem.W.Frag} {mg : Str → Option Value} {base : Heap}
theorem ok_grown (T : Txt K mg) : FnOk P w K mg base CX0 1 T.a_grown T.d_grown ["_law_twig_here"] (spGrownG K) := by
  refine T.F_grown.ok sc__law_grown (fun vs H Q E h => ?_) (fun cdv A outer s H vs Q E hr h => ⟨_, (pss_cons (ps_set (i := 1) sc__law_grown.nd rfl (.inl rfl) (pe_callTy call_list_of (by rfl) T.z_list (by decide +kernel) (pa_cons (pe_ix ix_list (pv 0) pe_int (fun _ _ => rfl)) pa_nil)))
      (pss_cons (ps_for PassesOwn.never rfl (pi_list (pe_ix ix_list (pv 0) pe_int (fun _ _ => rfl))) (pg_name (i := 2) sc__law_grown.nd rfl (.inl rfl))
      (pss_cons (ps_set (i := 3) sc__law_grown.nd rfl (.inl rfl) (pe_ix ix_list (pv 2) pe_int (fun _ _ => rfl)))
      (pss_one (ps_set (i := 1) sc__law_grown.nd rfl (.inl rfl) (pe_op op_cat (pe_op op_cat (pe_slice sl_list (pv 1) po_none (po_some (pv 3))) (pe_lst (pa_cons (pe_tup (pa_cons (pe_ix ix_list (pv 2) pe_int (fun _ _ => rfl)) (pa_cons (pe_ix ix_list (pv 1) (pv 3) (fun _ _ => rfl)) (pa_cons (pe_ix ix_list (pv 1) (pe_op op_add (pv 3) pe_int) (fun _ _ => rfl)) pa_nil)))) pa_nil))) (pe_slice sl_list (pv 1) (po_some (pe_op op_add (pv 3) pe_int)) po_none))))))
      (pss_one (ps_ret (pe_ix ix_list (pv 1) pe_int (fun _ _ => rfl)))))), ?_⟩)
  · first | (obtain ⟨rfl, _⟩ := h; rfl) | (obtain ⟨_, rfl, _⟩ := h; rfl) | (obtain ⟨_, _, rfl, _⟩ := h; rfl) | (obtain ⟨_, _, _, rfl, _⟩ := h; rfl) | (obtain ⟨_, _, _, _, rfl, _⟩ := h; rfl) | (obtain ⟨_, _, _, _, _, rfl, _⟩ := h; rfl) | (obtain ⟨_, _, _, _, _, _, rfl, _⟩ := h; rfl) | (obtain ⟨_, _, _, _, _, _, _, rfl, _⟩ := h; rfl) | (obtain ⟨_, _, _, _, _, _, _, _, rfl, _⟩ := h; rfl) | (obtain ⟨_, _, _, _, _, _, _, _, _, rfl, _⟩ := h; rfl) | (obtain ⟨_, _, _, _, _, _, _, _, _, _, rfl, _⟩ := h; rfl) | (obtain ⟨_, _, _, _, _, _, _, _, _, _, _, rfl, _⟩ := h; rfl) | (obtain ⟨_, _, _, _, _, _, _, _, _, _, _, _, rfl, _⟩ := h; rfl) | (obtain ⟨_, _, _, _, _, _, _, _, _, _, _, _, _, rfl, _⟩ := h; rfl) | (obtain ⟨_, _, _, _, _, _, _, _, _, _, _, _, _, _, rfl, _⟩ := h; rfl)
  · obtain ⟨p, B, gs, ms, rfl, hS, tw, gm, hl, kk⟩ := h
    try dsimp only [cxOf, Cx.nox, Cx.wish]
    refine st_of (σ := [some _, none, none, none]) rfl ?_
    obtain ⟨lv, mg, us, lvv, hp, hlv, hgs, hmg, mr⟩ := tw.ex
    have hp := Nw.to _ _ hp
    have hlv := Nw.to _ _ hlv
    have hmg := Nw.to _ _ hmg
    have mr := mr.same Nw.to
    have hgl := hgs.len
    walk_at "rd"
    intro l hl0
    have s0 : Same H (upd H l (.lst lvv)) := same_new (Same.refl _) hl0
    have gl0 : (upd H l (.lst lvv)) l = some (.lst lvv) := upd_same
    generalize upd H l (.lst lvv) = H1 at s0 gl0 ⊢
    have hp1 := s0 _ _ hp
    have hmg1 := s0 _ _ hmg
    have hML := mr.len
    walk_at "rd"
    with_reducible refine c_forList ?_
    walk_at "rd"
    refine ⟨⟨_, sql hmg1⟩, for_list (xs := us) (fun i σ G => ∃ (q : Addr) (vs : List V) (e2 e3 : Option V), σ = [some (.ref p), some (.ref q), e2, e3] ∧ Same H G ∧ G q = some (.lst vs) ∧ GRs K (Nw B G) vs (mrgs gnd gs (ms.take i))) ?_ ?_ ?_ ?_⟩
    · exact ⟨l, lvv, _, _, rfl, s0, gl0, hgs.same (Nw.same s0)⟩
    · rintro i σ G _ ⟨q, vs, e2, e3, rfl, sG, _⟩
      exact sql (sG _ _ hmg)
    · rintro i x σ G hi ⟨q, vs, e2, e3, rfl, sG, gq, jr⟩
      obtain ⟨a, k, w, rfl, hms, ha⟩ := mr.get hi
      have hii : i < ms.length := (List.getElem?_eq_some_iff.mp hms).1
      have hlen := mrgs_len (f := gnd) (xs := gs) (ms := ms) (gm.at_) i (Nat.le_of_lt hii)
      have hk := gm.at_ i _ hms
      rw [mrgs_succ hms]
      dsimp only at hk
      generalize mrgs gnd gs (ms.take i) = ts at jr hlen ⊢
      obtain ⟨tu, tx, ty, tr, rfl, rfl⟩ := split2 (xs := ts) (k := k) (by omega)
      rw [mrg1_eq]
      obtain ⟨va, vb, rfl, ja, jb⟩ := jr.split
      obtain ⟨vx, vy, vr, rfl, jx, jy, jr⟩ := jb.two
      case' _ =>
        case' _ =>
          have hva := ja.len
          simp at hlen
          have hvr := jr.len
          have ga := sG _ _ ha
          walk_at "rd"
          intro q1 h1
          rw [cut_to (xs := va) (ys := vx :: vy :: vr) (r := (tu.length : Int)) (by omega)]
          have s1 := same_new (o := .lst va) (Same.refl G) h1
          have g1 : (upd G q1 (.lst va)) q1 = some (.lst va) := upd_same
          generalize upd G q1 (.lst va) = G1 at s1 g1
          have ga1 := s1 _ _ ga
          have gq1 := s1 _ _ gq
          walk_at "rd"
          refine r_ixL (sql gq1) (atP (by omega)) ?_
          walk_at "rd"
          refine r_ixL (sql gq1) (atP1 (by omega)) ?_
          walk_at "rd"
          intro t ht
          have s2 := same_new (o := .tup [.str w.s, vx, vy]) (Same.refl G1) ht
          have g2 : (upd G1 t (.tup [.str w.s, vx, vy])) t = some (.tup [.str w.s, vx, vy]) := upd_same
          generalize upd G1 t (.tup [.str w.s, vx, vy]) = G2 at s2 g2
          walk_at "rd"
          intro q3 h3
          have s3 := same_new (o := .lst [.ref t]) (Same.refl G2) h3
          have g3 : (upd G2 q3 (.lst [.ref t])) q3 = some (.lst [.ref t]) := upd_same
          generalize upd G2 q3 (.lst [.ref t]) = G3 at s3 g3
          refine r_cat (s3 _ _ (s2 _ _ g1)) g3 (small (by simp; omega)) (fun q4 h4 => ?_)
          have s4 := same_new (o := .lst (va ++ [.ref t])) (Same.refl G3) h4
          have g4 : (upd G3 q4 (.lst (va ++ [.ref t]))) q4 = some (.lst (va ++ [.ref t])) := upd_same
          generalize upd G3 q4 (.lst (va ++ [.ref t])) = G4 at s4 g4
          have s14 := (s2.trans s3).trans s4
          have gq4 := s14 _ _ gq1
          walk_at "rd"
          intro q5 h5
          rw [cut_two (us := va) (by omega)]
          have s5 := same_new (o := .lst vr) (Same.refl G4) h5
          have g5 : (upd G4 q5 (.lst vr)) q5 = some (.lst vr) := upd_same
          generalize upd G4 q5 (.lst vr) = G5 at s5 g5
          refine r_cat (s5 _ _ g4) g5 (small (by simp; omega)) (fun q6 h6 => ?_)
          have s6 := same_new (o := .lst (va ++ [.ref t] ++ vr)) (Same.refl G5) h6
          have g6 : (upd G5 q6 (.lst (va ++ [.ref t] ++ vr))) q6 = some (.lst (va ++ [.ref t] ++ vr)) := upd_same
          generalize upd G5 q6 (.lst (va ++ [.ref t] ++ vr)) = G6 at s6 g6
          have s26 := ((s3.trans s4).trans s5).trans s6
          have s06 := (s1.trans s2).trans s26
          walk_at "rd"
          refine ⟨q6, _, _, _, rfl, sG.trans s06, g6, ?_⟩
          rw [List.append_assoc]
          exact (ja.same (Nw.same s06)).app (.cons (.tup (sqt (Nw.of (s26 _ _ g2) (hS t ((sG.trans s1).free ht)))) (.cons (.str _) (.cons (jx.same (Nw.same s06)) (.cons (jy.same (Nw.same s06)) .nil)))) (jr.same (Nw.same s06)))
    · rintro σ G ⟨q, vs, e2, e3, rfl, sG, gq, jr⟩
      rw [hML, List.take_length] at jr
      obtain ⟨t, ht⟩ := mrgs_one (f := gnd) (xs := gs) (ms := ms) (gm)
      rw [ht] at jr
      cases jr with
      | cons j jn =>
        cases jn
        have gq0 : SqL K G q _ := sql gq
        walk_at "rd"
        exact kk _ t G sG j ht
end


def spPiece (K : PySem.W.Frag) : Sp := fun vs H Q _ => ∃ (S L : Addr) (ns : List Int) (c : Int), vs = [.ref S, .int c] ∧ Strm S L ns H ∧ 0 ≤ c ∧ c ≤ 20 ∧ ∀ v g H', Ex S H H' → Strm S L ns H' → GR K (Nw H H') v g → isJ g = none → leafOk c g = false → g.sz ≤ 5 → Q v H'
theorem Ex.sm {S : Addr} {H H1 H2 : Hp} (e : Ex S H H1) (s : Same H1 H2) : Ex S H H2 := fun a o n h => s a o (e a o n h)
section
variable {P : Program} {w : World} {K : PySem.W.Frag} {mg : Str → Option Value} {base : Heap}
theorem ok_piece (T : Txt K mg) : FnOk P w K mg base CX0 2 T.a_piece T.d_piece ["_law_stream_here", "_law_count"] (spPiece K) := by
  refine T.F_piece.ok sc__law_piece (fun vs H Q E h => ?_) (fun cdv A outer s H vs Q E hr h => ⟨_, (pss_cons (ps_set (i := 2) sc__law_piece.nd rfl (.inl rfl) (pe_call (ok_draw T) (hr.mono (by decide)) (by rfl) T.g_draw T.F_draw.kp T.b_draw .nil pass0 (pa_cons (pv 0) (pa_cons pe_int pa_nil))))
      (pss_cons (ps_if (pt_cmpR op_eq (pv 2) pe_int (nomark _))
      (pss_one (ps_ret (pe_op op_add (pv 1) (pe_call (ok_draw T) (hr.mono (by decide)) (by rfl) T.g_draw T.F_draw.kp T.b_draw .nil pass0 (pa_cons (pv 0) (pa_cons (pe_op op_pow pe_int pe_int) pa_nil))))))
      pss_nil)
      (pss_cons (ps_if (pt_cmpR op_eq (pv 2) pe_int (nomark _))
      (pss_one (ps_ret (pe_op op_sub (pe_un un_neg pe_int) (pe_call (ok_draw T) (hr.mono (by decide)) (by rfl) T.g_draw T.F_draw.kp T.b_draw .nil pass0 (pa_cons (pv 0) (pa_cons (pe_op op_pow pe_int pe_int) pa_nil))))))
      pss_nil)
      (pss_cons (ps_set (i := 3) sc__law_piece.nd rfl (.inl rfl) (pe_lst (pa_cons pe_bl (pa_cons pe_bl (pa_cons pe_str (pa_cons pe_non (pa_cons (pe_lst (pa_cons pe_int pa_nil)) (pa_cons (pe_tup (pa_cons pe_int pa_nil)) (pa_cons (pe_tup (pa_cons pe_str (pa_cons pe_int pa_nil))) (pa_cons (pe_tup (pa_cons pe_str (pa_cons pe_int (pa_cons pe_int (pa_cons pe_int pa_nil))))) (pa_cons (pe_tup (pa_cons pe_str (pa_cons pe_int (pa_cons pe_int pa_nil)))) (pa_cons (pe_lst (pa_cons pe_str (pa_cons pe_int (pa_cons pe_int pa_nil)))) (pa_cons (pe_tup pa_nil) pa_nil)))))))))))))
      (pss_one (ps_ret (pe_ix ix_list (pv 3) (pe_op op_sub (pv 2) pe_int) (fun _ _ => rfl)))))))), ?_⟩)
  · first | (obtain ⟨rfl, _⟩ := h; rfl) | (obtain ⟨_, rfl, _⟩ := h; rfl) | (obtain ⟨_, _, rfl, _⟩ := h; rfl) | (obtain ⟨_, _, _, rfl, _⟩ := h; rfl) | (obtain ⟨_, _, _, _, rfl, _⟩ := h; rfl) | (obtain ⟨_, _, _, _, _, rfl, _⟩ := h; rfl) | (obtain ⟨_, _, _, _, _, _, rfl, _⟩ := h; rfl) | (obtain ⟨_, _, _, _, _, _, _, rfl, _⟩ := h; rfl) | (obtain ⟨_, _, _, _, _, _, _, _, rfl, _⟩ := h; rfl) | (obtain ⟨_, _, _, _, _, _, _, _, _, rfl, _⟩ := h; rfl) | (obtain ⟨_, _, _, _, _, _, _, _, _, _, rfl, _⟩ := h; rfl) | (obtain ⟨_, _, _, _, _, _, _, _, _, _, _, rfl, _⟩ := h; rfl) | (obtain ⟨_, _, _, _, _, _, _, _, _, _, _, _, rfl, _⟩ := h; rfl) | (obtain ⟨_, _, _, _, _, _, _, _, _, _, _, _, _, rfl, _⟩ := h; rfl) | (obtain ⟨_, _, _, _, _, _, _, _, _, _, _, _, _, _, rfl, _⟩ := h; rfl)
  · obtain ⟨S, L, ns, c, rfl, st, c0, c1, k⟩ := h
    try dsimp only [cxOf, Cx.nox, Cx.wish]
    refine st_of (σ := [some _, some _, none, none]) rfl ?_
    walk_at "rd"
    refine use_draw st (by decide) (by decide) (fun d H1 d0 d1 x1 st1 => ?_)
    walk_at "rd"
    refine i_d (fun e => ?_) (fun e => ?_)
    · walk_at "rd"
      refine use_draw st1 (by decide) (by decide) (fun z H2 z0 z1 x2 st2 => ?_)
      walk_at "rd"
      refine k _ (.int (c + z)) _ (x1.trans x2) st2 (.int _) rfl ?_ (by simp [GT.sz])
      simp only [leafOk, Bool.and_eq_false_iff, decide_eq_false_iff_not]
      omega
    walk_at "rd"
    refine i_d (fun e => ?_) (fun e => ?_)
    · walk_at "rd"
      refine use_draw st1 (by decide) (by decide) (fun z H2 z0 z1 x2 st2 => ?_)
      walk_at "rd"
      refine k _ (.int (-1 - z)) _ (x1.trans x2) st2 (.int _) rfl ?_ (by simp [GT.sz])
      simp only [leafOk, Bool.and_eq_false_iff, decide_eq_false_iff_not]
      omega
    walk_at "rd"
    refine fun a0 h0 => alc _ h0 (fun G0 s0 g0 => ?_)
    have n0 := st1.neS h0
    have e0 := x1.free n0 h0
    have xx0 := x1.sm s0
    have sta0 := st1.same s0
    walk_at "rd"
    refine fun a1 h1 => alc _ h1 (fun G1 s1 g1 => ?_)
    have n1 := sta0.neS h1
    have e1 := xx0.free n1 h1
    have xx1 := xx0.sm s1
    have sta1 := sta0.same s1
    walk_at "rd"
    refine fun a2 h2 => alc _ h2 (fun G2 s2 g2 => ?_)
    have n2 := sta1.neS h2
    have e2 := xx1.free n2 h2
    have xx2 := xx1.sm s2
    have sta2 := sta1.same s2
    walk_at "rd"
    refine fun a3 h3 => alc _ h3 (fun G3 s3 g3 => ?_)
    have n3 := sta2.neS h3
    have e3 := xx2.free n3 h3
    have xx3 := xx2.sm s3
    have sta3 := sta2.same s3
    walk_at "rd"
    refine fun a4 h4 => alc _ h4 (fun G4 s4 g4 => ?_)
    have n4 := sta3.neS h4
    have e4 := xx3.free n4 h4
    have xx4 := xx3.sm s4
    have sta4 := sta3.same s4
    walk_at "rd"
    refine fun a5 h5 => alc _ h5 (fun G5 s5 g5 => ?_)
    have n5 := sta4.neS h5
    have e5 := xx4.free n5 h5
    have xx5 := xx4.sm s5
    have sta5 := sta4.same s5
    walk_at "rd"
    refine fun a6 h6 => alc _ h6 (fun G6 s6 g6 => ?_)
    have n6 := sta5.neS h6
    have e6 := xx5.free n6 h6
    have xx6 := xx5.sm s6
    have sta6 := sta5.same s6
    walk_at "rd"
    refine fun a7 h7 => alc _ h7 (fun G7 s7 g7 => ?_)
    have sta7 := sta6.same s7
    walk_at "rd"
    have f0 := Nw.of (H := H) ((s7 _ _ (s6 _ _ (s5 _ _ (s4 _ _ (s3 _ _ (s2 _ _ (s1 _ _ g0)))))))) e0
    have f1 := Nw.of (H := H) ((s7 _ _ (s6 _ _ (s5 _ _ (s4 _ _ (s3 _ _ (s2 _ _ g1))))))) e1
    have f2 := Nw.of (H := H) ((s7 _ _ (s6 _ _ (s5 _ _ (s4 _ _ (s3 _ _ g2)))))) e2
    have f3 := Nw.of (H := H) ((s7 _ _ (s6 _ _ (s5 _ _ (s4 _ _ g3))))) e3
    have f4 := Nw.of (H := H) ((s7 _ _ (s6 _ _ (s5 _ _ g4)))) e4
    have f5 := Nw.of (H := H) ((s7 _ _ (s6 _ _ g5))) e5
    have f6 := Nw.of (H := H) ((s7 _ _ g6)) e6
    have ex7 := x1.sm (((((((s0.trans s1).trans s2).trans s3).trans s4).trans s5).trans s6).trans s7)
    have cs : d = 2 ∨ d = 3 ∨ d = 4 ∨ d = 5 ∨ d = 6 ∨ d = 7 ∨ d = 8 ∨ d = 9 ∨ d = 10 ∨ d = 11 ∨ d = 12 := by omega
    have lk : ∀ g : GT, (∀ i, g ≠ .int i) → leafOk c g = false := fun g hg => by
      cases g <;> first | rfl | exact absurd rfl (hg _)
    rcases cs with rfl | rfl | rfl | rfl | rfl | rfl | rfl | rfl | rfl | rfl | rfl
    · refine r_ixL (sql g7) (atI_nat (j := 0) (by rfl)) ?_
      walk_at "rd"
      exact k (.bl true) (.bl true) _ ex7 sta7 (.bl _) (by decide +kernel) (lk _ fun _ z => nomatch z) (by decide +kernel)
    · refine r_ixL (sql g7) (atI_nat (j := 1) (by rfl)) ?_
      walk_at "rd"
      exact k (.bl false) (.bl false) _ ex7 sta7 (.bl _) (by decide +kernel) (lk _ fun _ z => nomatch z) (by decide +kernel)
    · refine r_ixL (sql g7) (atI_nat (j := 2) (by rfl)) ?_
      walk_at "rd"
      exact k (.str "0") (.str "0") _ ex7 sta7 (.str _) (by decide +kernel) (lk _ fun _ z => nomatch z) (by decide +kernel)
    · refine r_ixL (sql g7) (atI_nat (j := 3) (by rfl)) ?_
      walk_at "rd"
      exact k .non .non _ ex7 sta7 .non (by decide +kernel) (lk _ fun _ z => nomatch z) (by decide +kernel)
    · refine r_ixL (sql g7) (atI_nat (j := 4) (by rfl)) ?_
      walk_at "rd"
      exact k (.ref a0) (.lst [.int 0]) _ ex7 sta7 (.lst (sql f0) (.cons (.int _) .nil)) (by decide +kernel) (lk _ fun _ z => nomatch z) (by decide +kernel)
    · refine r_ixL (sql g7) (atI_nat (j := 5) (by rfl)) ?_
      walk_at "rd"
      exact k (.ref a1) (.tup [.int 0]) _ ex7 sta7 (.tup (sqt f1) (.cons (.int _) .nil)) (by decide +kernel) (lk _ fun _ z => nomatch z) (by decide +kernel)
    · refine r_ixL (sql g7) (atI_nat (j := 6) (by rfl)) ?_
      walk_at "rd"
      exact k (.ref a2) (.tup [.str "and", .int 0]) _ ex7 sta7 (.tup (sqt f2) (.cons (.str _) (.cons (.int _) .nil))) (by decide +kernel) (lk _ fun _ z => nomatch z) (by decide +kernel)
    · refine r_ixL (sql g7) (atI_nat (j := 7) (by rfl)) ?_
      walk_at "rd"
      exact k (.ref a3) (.tup [.str "and", .int 0, .int 0, .int 0]) _ ex7 sta7 (.tup (sqt f3) (.cons (.str _) (.cons (.int _) (.cons (.int _) (.cons (.int _) .nil))))) (by decide +kernel) (lk _ fun _ z => nomatch z) (by decide +kernel)
    · refine r_ixL (sql g7) (atI_nat (j := 8) (by rfl)) ?_
      walk_at "rd"
      exact k (.ref a4) (.tup [.str "xor", .int 0, .int 0]) _ ex7 sta7 (.tup (sqt f4) (.cons (.str _) (.cons (.int _) (.cons (.int _) .nil)))) (by decide +kernel) (lk _ fun _ z => nomatch z) (by decide +kernel)
    · refine r_ixL (sql g7) (atI_nat (j := 9) (by rfl)) ?_
      walk_at "rd"
      exact k (.ref a5) (.lst [.str "and", .int 0, .int 0]) _ ex7 sta7 (.lst (sql f5) (.cons (.str _) (.cons (.int _) (.cons (.int _) .nil)))) (by decide +kernel) (lk _ fun _ z => nomatch z) (by decide +kernel)
    · refine r_ixL (sql g7) (atI_nat (j := 10) (by rfl)) ?_
      walk_at "rd"
      exact k (.ref a6) (.tup []) _ ex7 sta7 (.tup (sqt f6) .nil) (by decide +kernel) (lk _ fun _ z => nomatch z) (by decide +kernel)
end

def spMaybe (K : PySem.W.Frag) : Sp := fun vs H Q _ => ∃ (S L : Addr) (ns : List Int) (c : Int), vs = [.ref S, .int c] ∧ Strm S L ns H ∧ 0 ≤ c ∧ c ≤ 7 ∧ ∀ p v g H', Ex S H H' → Strm S L ns H' → Nw H H' p = some (.lst [v, .bl (fine c g)]) → GR K (Nw H H') v g → g.sz ≤ 200 → Q (.ref p) H'
theorem grown_fine {c : Int} {gs : List GT} {ms : List (Nat × Wd)} {g : GT} (h : mrgs gnd gs ms = [g]) (hj : ∀ x ∈ gs, isJ x = none) : fine c g = (gs.all (leafOk c) && decide (gs.length < 5)) := by
  have h1 := grown_cnt h
  rw [sum_eq (b := 2) (fun x hx => by rw [cnt_N (hj x hx)])] at h1
  have e : gs.all (okT c) = gs.all (leafOk c) := by
    rw [Bool.eq_iff_iff, List.all_eq_true, List.all_eq_true]
    exact ⟨fun z x hx => by rw [← okT_N (hj x hx)]; exact z x hx, fun z x hx => by rw [okT_N (hj x hx)]; exact z x hx⟩
  unfold fine
  rw [grown_ok h, e]
  congr 1
  exact decide_eq_decide.mpr (by omega)
theorem not_fine {c : Int} {g : GT} (h : 7 < cnt g) : fine c g = false := by
  simp only [fine, Bool.and_eq_false_iff, decide_eq_false_iff_not]
  right
  omega
section
variable {P : Program} {w : World} {K : PySem.W.Frag} {mg : Str → Option Value} {base : Heap}
theorem ok_maybe_tree (T : Txt K mg) : FnOk P w K mg base CX0 3 T.a_maybe_tree T.d_maybe_tree ["_law_stream_here", "_law_count"] (spMaybe K) := by
  refine T.F_maybe_tree.ok sc__law_maybe_tree (fun vs H Q E h => ?_) (fun cdv A outer s H vs Q E hr h => ⟨_, (pss_cons (ps_set (i := 2) sc__law_maybe_tree.nd rfl (.inl rfl) (pe_call (ok_twig T) (hr.mono (by decide)) (by rfl) T.g_twig T.F_twig.kp T.b_twig .nil pass0 (pa_cons (pv 0) (pa_cons (pe_callB (call_max2 rfl) (by rfl) T.z_max (by decide +kernel) (pa_cons pe_int (pa_cons (pv 1) pa_nil))) (pa_cons pe_int pa_nil)))))
      (pss_cons (ps_set (i := 3) sc__law_maybe_tree.nd rfl (.inl rfl) (pe_mid (pe_and (pe_cmpR op_gt (pv 1) pe_int (nomark _)) (pe_one (pe_cmpR op_lt (pe_callB call_len_seq (by rfl) T.z_len PySem.boot_len (pa_cons (pe_ix ix_list (pv 2) pe_int (fun _ _ => rfl)) pa_nil)) pe_int (nomark _))))))
      (Evl.pss_cut (ps_if (pt_cmpR op_eq (pe_call (ok_draw T) (hr.mono (by decide)) (by rfl) T.g_draw T.F_draw.kp T.b_draw .nil pass0 (pa_cons (pv 0) (pa_cons pe_int pa_nil))) pe_int (nomark _))
      (pss_cons (ps_asg (pe_call (ok_piece T) (hr.mono (by decide)) (by rfl) T.g_piece T.F_piece.kp T.b_piece .nil pass0 (pa_cons (pv 0) (pa_cons (pv 1) pa_nil))) (pg_sub (pe_ix ix_list (pv 2) pe_int (fun _ _ => rfl)) (pe_call (ok_draw T) (hr.mono (by decide)) (by rfl) T.g_draw T.F_draw.kp T.b_draw .nil pass0 (pa_cons (pv 0) (pa_cons (pe_callB call_len_seq (by rfl) T.z_len PySem.boot_len (pa_cons (pe_ix ix_list (pv 2) pe_int (fun _ _ => rfl)) pa_nil)) pa_nil))) set_list))
      (pss_one (ps_set (i := 3) sc__law_maybe_tree.nd rfl (.inl rfl) pe_bl)))
      pss_nil)
      (pss_cons (ps_set (i := 4) sc__law_maybe_tree.nd rfl (.inl rfl) (pe_call (ok_grown T) (hr.mono (by decide)) (by rfl) T.g_grown T.F_grown.kp T.b_grown .nil pass0 (pa_cons (pv 2) pa_nil)))
      (Evl.pss_cut (ps_if (pt_cmpR op_eq (pe_call (ok_draw T) (hr.mono (by decide)) (by rfl) T.g_draw T.F_draw.kp T.b_draw .nil pass0 (pa_cons (pv 0) (pa_cons pe_int pa_nil))) pe_int (nomark _))
      (pss_cons (ps_for PassesOwn.never rfl (pi_range1 (by rfl) T.z_range (pa_cons pe_int pa_nil)) (pg_name (i := 5) sc__law_maybe_tree.nd rfl (.inl rfl))
      (pss_one (ps_set (i := 4) sc__law_maybe_tree.nd rfl (.inl rfl) (pe_tup (pa_cons (pe_ix ix_list (pe_lst (pa_cons pe_str (pa_cons pe_str (pa_cons pe_str pa_nil)))) (pe_op op_mod (pe_callTy call_int1 (by rfl) T.z_int (by decide +kernel) (pa_cons (pv 5) pa_nil)) pe_int) (fun _ _ => rfl)) (pa_cons (pv 4) (pa_cons pe_int pa_nil)))))))
      (pss_one (ps_set (i := 3) sc__law_maybe_tree.nd rfl (.inl rfl) pe_bl)))
      pss_nil)
      (pss_one (ps_ret (pe_lst (pa_cons (pv 4) (pa_cons (pv 3) pa_nil)))))))))), ?_⟩)
  · first | (obtain ⟨rfl, _⟩ := h; rfl) | (obtain ⟨_, rfl, _⟩ := h; rfl) | (obtain ⟨_, _, rfl, _⟩ := h; rfl) | (obtain ⟨_, _, _, rfl, _⟩ := h; rfl) | (obtain ⟨_, _, _, _, rfl, _⟩ := h; rfl) | (obtain ⟨_, _, _, _, _, rfl, _⟩ := h; rfl) | (obtain ⟨_, _, _, _, _, _, rfl, _⟩ := h; rfl) | (obtain ⟨_, _, _, _, _, _, _, rfl, _⟩ := h; rfl) | (obtain ⟨_, _, _, _, _, _, _, _, rfl, _⟩ := h; rfl) | (obtain ⟨_, _, _, _, _, _, _, _, _, rfl, _⟩ := h; rfl) | (obtain ⟨_, _, _, _, _, _, _, _, _, _, rfl, _⟩ := h; rfl) | (obtain ⟨_, _, _, _, _, _, _, _, _, _, _, rfl, _⟩ := h; rfl) | (obtain ⟨_, _, _, _, _, _, _, _, _, _, _, _, rfl, _⟩ := h; rfl) | (obtain ⟨_, _, _, _, _, _, _, _, _, _, _, _, _, rfl, _⟩ := h; rfl) | (obtain ⟨_, _, _, _, _, _, _, _, _, _, _, _, _, _, rfl, _⟩ := h; rfl)
  · obtain ⟨S, L, ns, c, rfl, st, c0, c1, k⟩ := h
    obtain ⟨_, _, _, eS0, _⟩ := id st.at_
    try dsimp only [cxOf, Cx.nox, Cx.wish]
    refine st_of (σ := [some _, some _, none, none, none, none]) rfl ?_
    walk_at "rd"
    have hm : 1 ≤ (if c > 1 then c else 1) ∧ (if c > 1 then c else 1) ≤ 7 ∧ (0 < c → (if c > 1 then c else 1) = c) := by split <;> omega
    generalize (if c > 1 then c else 1) = m0 at hm ⊢
    refine ⟨S, L, ns, m0, 5, rfl, st, by omega, by omega, by decide, by decide, fun p ls ms H1 x1 st1 tw hlc hlen gm hnL => ?_⟩
    have hle : 1 ≤ ls.length := by
      have := gm.len
      omega
    obtain ⟨lv, mgA, us, hp, hlv, hmg, mr, npl, nml⟩ := tw.split (by intro z; rw [z] at hle; simp at hle)
    have hp1 := Nw.to _ _ hp
    have hlv1 := Nw.to _ _ hlv
    have nls := Nw.ne hlv eS0
    have qp : SqL K H1 p [.ref lv, .ref mgA] := sql hp1
    have ql : SqL K H1 lv (nts ls) := sql hlv1
    have lnt := nts_len ls
    walk_at "rd"
    refine c_midE (fun v H' => H' = H1 ∧ v = .bl (decide (0 < c) && decide (ls.length < 5))) ?_ ?_
    · walk_at "rd"
      refine i_d (fun e => ?_) (fun e => ?_)
      · walk_at "rd"
        refine ⟨rfl, ?_⟩
        rw [lnt, decide_eq_true (show 0 < c from e), Bool.true_and]
        congr 1
        exact decide_eq_decide.mpr (by omega)
      · refine ⟨rfl, ?_⟩
        rw [decide_eq_false (show ¬ 0 < c from e), Bool.false_and]
    rintro v H1 ⟨rfl, rfl⟩
    walk_at "rd"
    refine ⟨fun σ' G => ∃ (gs : List GT), σ' = [some (.ref S), some (.int c), some (.ref p), some (.bl (gs.all (leafOk c) && decide (gs.length < 5))), none, none] ∧ Strm S L ns G ∧ Ex S H G ∧ TwG K (Nw H G) p gs ms ∧ gs.length = ls.length ∧ ∀ x ∈ gs, isJ x = none ∧ x.sz ≤ 5, ?_, ?_⟩
    · walk_at "rd"
      refine use_draw st1 (by decide) (by decide) (fun d H2 d0 d1 x2 st2 => ?_)
      have aw2 := Nw.ex (B := H) eS0 x2
      walk_at "rd"
      refine i_d (fun e => ?_) (fun e => ?_)
      · walk_at "rd"
        refine ⟨S, L, ns, c, rfl, st2, c0, by omega, fun v g H3 x3 st3 gr hj hlf hsz => ?_⟩
        have aw3 := Nw.ex (B := H) eS0 x3
        have qp3 : SqL K H3 p [.ref lv, .ref mgA] := sql (Nw.to _ _ (aw3 _ _ (aw2 _ _ hp)))
        have ql3 : SqL K H3 lv (nts ls) := sql (Nw.to _ _ (aw3 _ _ (aw2 _ _ hlv)))
        walk_at "rd"
        refine use_draw st3 (by omega) (by omega) (fun j H4 j0 j1 x4 st4 => ?_)
        have aw4 := (aw2.trans aw3).trans (Nw.ex (B := H) eS0 x4)
        have hlv4 := Nw.to _ _ (aw4 _ _ hlv)
        have hj1 : j.toNat < ls.length := by omega
        refine r_setL hlv4 (j := j.toNat) ?_ ?_
        · have := ixn (n := (nts ls).length) (j := j.toNat) (by omega)
          rwa [Int.toNat_of_nonneg j0] at this
        walk_at "rd"
        have nlL : lv ≠ L := hnL _ _ hp1
        have aw6 : Same (Aw lv (Nw H H1)) (Aw lv (Nw H (upd H4 lv (.lst ((nts ls).set j.toNat v))))) := (Aw.same aw4).trans Nw.at
        have hlv2 := Nw.to _ _ (aw2 _ _ hlv)
        obtain ⟨_, _, _, eS2, _⟩ := id st2.at_
        have gr5 : GR K (Nw H (upd H4 lv (.lst ((nts ls).set j.toNat v)))) v g := gr.same fun b o h => by
          have nb := Nw.ne h hlv2
          have nS := Nw.ne h eS2
          refine Nw.of ?_ ((x1.trans x2).fr eS2 (Nw.no h))
          rw [upd_ne nb]
          exact x4 _ _ nS (Nw.to _ _ h)
        have hb : ((ls.map fun i => GT.int (i : Nat)).set j.toNat g).all (leafOk c) = false := by
          rw [List.all_eq_false]
          exact ⟨g, List.mem_of_getElem? (i := j.toNat) (by rw [List.getElem?_set_self (by simpa using hj1)]), by rw [hlf]; decide⟩
        refine ⟨(ls.map fun i => GT.int (i : Nat)).set j.toNat g, by rw [hb]; rfl, st4.upd nls nlL, ?_, ?_, by simp, fun x hx => ?_⟩
        · exact ((x1.trans x2).trans (x3.trans x4)).mut (Nw.no hlv)
        · refine ⟨lv, mgA, us, (nts ls).set j.toNat v, ?_, ?_, GRs.set (GRs.nts ls) gr5, ?_, (mr.same aw6).same Aw.to⟩
          · exact aw6.trans Aw.to _ _ (Aw.of hp npl)
          · exact Nw.of upd_same (Nw.no hlv)
          · exact aw6.trans Aw.to _ _ (Aw.of hmg nml)
        · rcases List.mem_or_eq_of_mem_set hx with hx | rfl
          · obtain ⟨i, _, rfl⟩ := List.mem_map.mp hx
            exact ⟨rfl, by simp [GT.sz]⟩
          · exact ⟨hj, hsz⟩
      · walk_at "rd"
        refine ⟨ls.map fun i => GT.int (i : Nat), ?_, st2, x1.trans x2, ?_, by simp, fun x hx => ?_⟩
        · have e2 : (ls.map fun i => GT.int (i : Nat)).all (leafOk c) = decide (0 < c) := by
            by_cases h0 : 0 < c
            · rw [decide_eq_true h0, List.all_eq_true]
              intro x hx
              obtain ⟨i, hi, rfl⟩ := List.mem_map.mp hx
              have := hlc i hi
              have := hm.2.2 h0
              simp [leafOk]
              omega
            · rw [decide_eq_false h0, List.all_eq_false]
              have hi : (0 : Nat) < ls.length := hle
              refine ⟨.int (ls[0] : Nat), List.mem_map.mpr ⟨ls[0], List.getElem_mem hi, rfl⟩, ?_⟩
              simp [leafOk]
              omega
          rw [e2, List.length_map]
        · exact ⟨lv, mgA, us, nts ls, aw2 _ _ hp, aw2 _ _ hlv, GRs.nts ls, aw2 _ _ hmg, (mr.same Aw.to).same aw2⟩
        · obtain ⟨i, _, rfl⟩ := List.mem_map.mp hx
          exact ⟨rfl, by simp [GT.sz]⟩
    · rintro σ' G ⟨gs, rfl, stG, xG, tg, hgl, hgj⟩
      obtain ⟨pS, nS, kS, eS, _⟩ := id stG.at_
      walk_at "rd"
      refine ⟨p, H, gs, ms, rfl, fun a ha => xG.fr eS ha, tg, by rw [hgl]; exact gm, by omega, fun v g G2 s2 gr hmg2 => ?_⟩
      have hf := grown_fine (c := c) hmg2 fun x hx => (hgj x hx).1
      have hz := grown_sz hmg2
      have hz2 := sum_le (l := gs) (f := fun x => x.sz + 2) (b := 7) fun x hx => by have := (hgj x hx).2; omega
      rw [← hf]
      have st2 := stG.same s2
      have x2 := xG.sm s2
      walk_at "rd"
      refine ⟨fun σ' G' => ∃ (v g : _) (e5 : Option V), σ' = [some (.ref S), some (.int c), some (.ref p), some (.bl (fine c g)), some v, e5] ∧ Strm S L ns G' ∧ Ex S H G' ∧ GR K (Nw H G') v g ∧ g.sz ≤ 200, ?_, ?_⟩
      · walk_at "rd"
        refine use_draw st2 (by decide) (by decide) (fun d G3 d0 d1 x3 st3 => ?_)
        walk_at "rd"
        refine i_d (fun e => ?_) (fun e => ?_)
        · walk_at "rd"
          with_reducible refine c_rng1 ?_
          walk_at "rd"
          refine ⟨by decide, by decide, for_range (lo := 0) (n := 40) (fun i σ G => ∃ (v1 g1 : _) (e5 : Option V), σ = [some (.ref S), some (.int c), some (.ref p), some (.bl (fine c g)), some v1, e5] ∧ Strm S L ns G ∧ Ex S H G ∧ GR K (Nw H G) v1 g1 ∧ g1.sz ≤ 50 + 3 * i ∧ 1 + 2 * i ≤ cnt g1) ?_ ?_ ?_⟩
          · exact ⟨v, g, _, rfl, st3, x2.trans x3, gr.same (Nw.ex eS0 x3), by omega, by have := cnt_pos g; omega⟩
          · rintro i σ G hi ⟨v1, g1, e5, rfl, st4, x4, gr4, hz4, hc4⟩
            walk_at "rd"
            refine fun q hq => alc _ hq (fun G5 s5 g5 => ?_)
            walk_at "rd"
            obtain ⟨wd, hw⟩ := wd_at (d := (0 + (i : Int)) % 3) (by omega) (by omega)
            refine r_ixL (sql g5) hw ?_
            walk_at "rd"
            refine fun t ht => alc _ ht (fun G6 s6 g6 => ?_)
            have st5 := st4.same s5
            have s56 := s5.trans s6
            walk_at "rd"
            refine ⟨.ref t, gnd wd g1 (.int 0), _, rfl, st4.same s56, x4.sm s56, .tup (sqt (Nw.of g6 ((x4.sm s5).free (st5.neS ht) ht))) (.cons (.str _) (.cons (gr4.same (Nw.same s56)) (.cons (.int _) .nil))), ?_, ?_⟩
            · unfold gnd
              simp only [GT.sz, szs]
              omega
            · rw [cnt_J (isJ_gnd wd g1 (.int 0))]
              have := cnt_pos (.int 0)
              omega
          · rintro σ G ⟨v1, g1, e5, rfl, st4, x4, gr4, hz4, hc4⟩
            walk_at "rd"
            exact ⟨v1, g1, _, by rw [not_fine (c := c) (by omega)], st4, x4, gr4, by omega⟩
        · walk_at "rd"
          exact ⟨v, g, _, rfl, st3, x2.trans x3, gr.same (Nw.ex eS0 x3), by omega⟩
      · rintro σ' G' ⟨v, g, e5, rfl, st4, x4, gr4, hz4⟩
        walk_at "rd"
        refine fun q hq => alc _ hq (fun G5 s5 g5 => ?_)
        exact k q v g _ (x4.sm s5) (st4.same s5) (Nw.of g5 (x4.free (st4.neS hq) hq)) (gr4.same (Nw.same s5)) hz4
end


def spChecked (K : PySem.W.Frag) : Sp := fun vs H Q _ => ∃ (v : V) (c : Int) (b : Bool), vs = [v, .int c, .bl b] ∧
  ((∃ g, b = false ∧ GR K H v g ∧ (fine c g = true → ∀ p H', Same H H' → H p = none → H' p = some (.lst [.non]) → Q (.ref p) H') ∧
    (fine c g = false → ∀ p H', Same H H' → H p = none → H' p = some (.lst [.str "BadTree", v, .bl true, .bl false]) → Q (.ref p) H')) ∨
  (∃ a xs gs, v = .ref a ∧ b = true ∧ SqL K H a xs ∧ GRs K H xs gs ∧ xs.length ≤ 100 ∧
    (4 < xs.length → ∀ p H', Same H H' → H p = none → H' p = some (.lst [.str "TooMany", .int xs.length, .bl true, .bl false]) → Q (.ref p) H') ∧
    (xs.length ≤ 4 → (∀ u, fbad c xs gs = some u → ∀ p H', Same H H' → H p = none → H' p = some (.lst [.str "BadTree", u, .bl true, .bl false]) → Q (.ref p) H') ∧
      (fbad c xs gs = none → ∀ p H', Same H H' → H p = none → H' p = some (.lst [.non]) → Q (.ref p) H'))))
section
variable {P : Program} {w : World} {K : PySem.W.Frag} {mg : Str → Option Value} {base : Heap}
theorem ok_checked (T : Txt K mg) : FnOk P w K mg base CX0 6 T.a_checked T.d_checked ["_law_value", "_law_count", "_law_whole"] (spChecked K) := by
  refine T.F_checked.ok sc__law_checked (fun vs H Q E h => ?_) (fun cdv A outer s H vs Q E hr h => ⟨_, (pss_cons (ps_set (i := 3) sc__law_checked.nd rfl (.inl rfl) (pe_lst pa_nil))
      (pss_cons (ps_try_named rfl rfl sc__law_checked.nd takes0 (fun W pn xe tk po => (pss_one (ps_if (pt_val (pv 2))
      (pss_one (ps_set (i := 3) sc__law_checked.nd rfl (.inl rfl) (pe_lst (pa_cons (pe_callS (ok_check_plan T) (hr.mono (by decide)) (by rfl) T.g_check_plan T.F_check_plan.kp T.b_check_plan (fun σ => passAt tk σ) (pa_cons (pv 0) (pa_cons (pv 1) pa_nil))) pa_nil))))
      (pss_one (ps_set (i := 3) sc__law_checked.nd rfl (.inl rfl) (pe_lst (pa_cons (pe_callS (ok_check_tree T) (hr.mono (by decide)) (by rfl) T.g_check_tree T.F_check_tree.kp T.b_check_tree (fun σ => passAt tk σ) (pa_cons (pv 0) (pa_cons (pv 1) pa_nil))) pa_nil)))))))
      (.cons (i := 4) rfl rfl ⟨rfl, by decide, .inl T.g_BadTree⟩ (fun a oe cls d pn hz hf => (pss_one (ps_set (i := 3) sc__law_checked.nd rfl (.inl rfl) (pe_lst (pa_cons pe_str (pa_cons (pe_xf T.xf_BadTree T.no_BadTree hz hf (pv 4)) (pa_cons (pe_callB (call_isX T.is_BadTree hz hf) (by rfl) T.z_isinstance (by decide +kernel) (pa_cons (pv 4) (pa_cons (pe_glob (v := .ref T.C_PagesError) rfl T.g_PagesError rfl) pa_nil))) (pa_cons (pe_callB (call_isX T.is_BadTree hz hf) (by rfl) T.z_isinstance (by decide +kernel) (pa_cons (pv 4) (pa_cons (pe_glob (v := .ref T.C_TooMany) rfl T.g_TooMany rfl) pa_nil))) pa_nil))))))))
      (.cons (i := 5) rfl rfl ⟨rfl, by decide, .inl T.g_TooMany⟩ (fun a oe cls d pn hz hf => (pss_one (ps_set (i := 3) sc__law_checked.nd rfl (.inl rfl) (pe_lst (pa_cons pe_str (pa_cons (pe_xf T.xf_TooMany T.no_TooMany hz hf (pv 5)) (pa_cons (pe_callB (call_isX T.is_TooMany hz hf) (by rfl) T.z_isinstance (by decide +kernel) (pa_cons (pv 5) (pa_cons (pe_glob (v := .ref T.C_PagesError) rfl T.g_PagesError rfl) pa_nil))) (pa_cons (pe_callB (call_isX T.is_TooMany hz hf) (by rfl) T.z_isinstance (by decide +kernel) (pa_cons (pv 5) (pa_cons (pe_glob (v := .ref T.C_BadTree) rfl T.g_BadTree rfl) pa_nil))) pa_nil))))))))
      .nil)))
      (pss_one (ps_ret (pv 3))))), ?_⟩)
  · first | (obtain ⟨rfl, _⟩ := h; rfl) | (obtain ⟨_, rfl, _⟩ := h; rfl) | (obtain ⟨_, _, rfl, _⟩ := h; rfl) | (obtain ⟨_, _, _, rfl, _⟩ := h; rfl) | (obtain ⟨_, _, _, _, rfl, _⟩ := h; rfl) | (obtain ⟨_, _, _, _, _, rfl, _⟩ := h; rfl) | (obtain ⟨_, _, _, _, _, _, rfl, _⟩ := h; rfl) | (obtain ⟨_, _, _, _, _, _, _, rfl, _⟩ := h; rfl) | (obtain ⟨_, _, _, _, _, _, _, _, rfl, _⟩ := h; rfl) | (obtain ⟨_, _, _, _, _, _, _, _, _, rfl, _⟩ := h; rfl) | (obtain ⟨_, _, _, _, _, _, _, _, _, _, rfl, _⟩ := h; rfl) | (obtain ⟨_, _, _, _, _, _, _, _, _, _, _, rfl, _⟩ := h; rfl) | (obtain ⟨_, _, _, _, _, _, _, _, _, _, _, _, rfl, _⟩ := h; rfl) | (obtain ⟨_, _, _, _, _, _, _, _, _, _, _, _, _, rfl, _⟩ := h; rfl) | (obtain ⟨_, _, _, _, _, _, _, _, _, _, _, _, _, _, rfl, _⟩ := h; rfl)
  · obtain ⟨v, c, b, rfl, ⟨g, rfl, hg, k1, k2⟩ | ⟨a, xs, gs, rfl, rfl, hS, hg, hl, k1, k2⟩⟩ := h
    case' inl =>
      try dsimp only [cxOf, Cx.nox, Cx.wish]
      refine st_of (σ := [some _, some _, some _, none, none, none]) rfl ?_
      walk_at "rd"
      refine fun l0 hl0 => alc _ hl0 (fun H0 s0 _ => ?_)
      walk_at "rd"
      refine c_callS ?_
      walk_at "rd"
      refine ⟨v, c, g, rfl, hg.same s0, fun ok H1 s1 => ?_, fun bad d H1 hd s1 hx => ?_⟩
      · walk_at "rd"
        refine fun p hp => alc _ hp (fun H2 s2 g2 => ?_)
        walk_at "rd"
        exact k1 ok p H2 ((s0.trans s1).trans s2) (free' hp (s0.trans s1)) g2
      · refine ⟨true, T.te_BadTree_BadTree, fun _ a0 h0 => ?_, fun q => Bool.noConfusion q⟩
        dsimp only [List.set, Ends.off]
        walk_at "rd"
        refine ⟨rfl, rfl, d, _, v, rfl, hx, rfl, ?_⟩
        walk_at "rd"
        refine ⟨_, _, true, d, _, rfl, rfl, rfl, hx, (fun u r => r), T.kit_BadTree_PagesError, ?_⟩
        walk_at "rd"
        refine ⟨_, _, false, d, _, rfl, rfl, rfl, hx, (fun u r => r), T.kit_BadTree_TooMany, ?_⟩
        walk_at "rd"
        refine fun p hp => alc _ hp (fun H2 s2 g2 => ?_)
        walk_at "rd"
        exact k2 bad p H2 ((s0.trans s1).trans s2) (free' hp (s0.trans s1)) g2
    case' inr =>
      try dsimp only [cxOf, Cx.nox, Cx.wish]
      refine st_of (σ := [some _, some _, some _, none, none, none]) rfl ?_
      walk_at "rd"
      refine fun l0 hl0 => alc _ hl0 (fun H0 s0 _ => ?_)
      walk_at "rd"
      refine c_callS ?_
      walk_at "rd"
      refine ⟨a, c, xs, gs, rfl, seq' hS s0, hg.same s0, hl, fun h4 d H1 hd s1 hx => ?_, fun h4 => ⟨fun u hu d H1 hd s1 hx => ?_, fun hn H1 s1 => ?_⟩⟩
      · refine ⟨false, T.te_TooMany_BadTree, fun q => Bool.noConfusion q, fun _ => ⟨true, T.te_TooMany_TooMany, fun _ a0 h0 => ?_, fun q => Bool.noConfusion q⟩⟩
        dsimp only [List.set, Ends.off]
        walk_at "rd"
        refine ⟨rfl, rfl, d, _, _, rfl, hx, rfl, ?_⟩
        walk_at "rd"
        refine ⟨_, _, true, d, _, rfl, rfl, rfl, hx, (fun u r => r), T.kit_TooMany_PagesError, ?_⟩
        walk_at "rd"
        refine ⟨_, _, false, d, _, rfl, rfl, rfl, hx, (fun u r => r), T.kit_TooMany_BadTree, ?_⟩
        walk_at "rd"
        refine fun p hp => alc _ hp (fun H2 s2 g2 => ?_)
        walk_at "rd"
        exact k1 h4 p H2 ((s0.trans s1).trans s2) (free' hp (s0.trans s1)) g2
      · refine ⟨true, T.te_BadTree_BadTree, fun _ a0 h0 => ?_, fun q => Bool.noConfusion q⟩
        dsimp only [List.set, Ends.off]
        walk_at "rd"
        refine ⟨rfl, rfl, d, _, u, rfl, hx, rfl, ?_⟩
        walk_at "rd"
        refine ⟨_, _, true, d, _, rfl, rfl, rfl, hx, (fun u r => r), T.kit_BadTree_PagesError, ?_⟩
        walk_at "rd"
        refine ⟨_, _, false, d, _, rfl, rfl, rfl, hx, (fun u r => r), T.kit_BadTree_TooMany, ?_⟩
        walk_at "rd"
        refine fun p hp => alc _ hp (fun H2 s2 g2 => ?_)
        walk_at "rd"
        exact (k2 h4).1 u hu p H2 ((s0.trans s1).trans s2) (free' hp (s0.trans s1)) g2
      · walk_at "rd"
        refine fun p hp => alc _ hp (fun H2 s2 g2 => ?_)
        walk_at "rd"
        exact (k2 h4).2 hn p H2 ((s0.trans s1).trans s2) (free' hp (s0.trans s1)) g2
end

/-! ### a walk by what holds ahead of each turn -/
section
variable {K : PySem.W.Frag} {a : Addr} {xs : List V} {G0 : Hp} {Qd : Hp → Prop} {B : V → Hp → (Hp → Prop) → Prop}
theorem walkL (Pv : Nat → Hp → Prop) (h0 : Pv 0 G0) (hl : ∀ i H, i ≤ xs.length → Pv i H → SqL K H a xs) (hs : ∀ i x H, xs[i]? = some x → Pv i H → B x H (Pv (i + 1))) (hd : ∀ H, Pv xs.length H → Qd H) :
    ∃ W : Nat → Nat → Hp → Prop, (∃ m, W 0 m G0) ∧ ∀ i m H, W i m H → ((Itl K a).stop i H ∧ Qd H) ∨ ((Itl K a).go i H ∧ ∃ Nx : Hp → Prop, (∀ H', Nx H' → ∃ m', m' < m ∧ W (i + 1) m' H') ∧ ∀ x H', (Itl K a).yld i H x H' → B x H' Nx) := by
  refine ⟨fun i m H => m = xs.length - i ∧ i ≤ xs.length ∧ Pv i H, ⟨xs.length, rfl, Nat.zero_le _, h0⟩, fun i m H hw => ?_⟩
  obtain ⟨rfl, hi, p⟩ := hw
  have q := hl i H hi p
  by_cases lt : i < xs.length
  · refine .inr ⟨⟨xs, xs[i], q, List.getElem?_eq_getElem lt⟩, Pv (i + 1), fun H' n => ⟨xs.length - (i + 1), by omega, rfl, lt, n⟩, fun x H' hy => ?_⟩
    obtain ⟨rfl, hx⟩ := hy
    exact hs i x H' (hx xs q) p
  · refine .inl ⟨⟨xs, q, by omega⟩, hd H ?_⟩
    have e : i = xs.length := by omega
    exact e ▸ p
theorem walkT (Pv : Nat → Hp → Prop) (h0 : Pv 0 G0) (hl : ∀ i H, i ≤ xs.length → Pv i H → SqT K H a xs) (hs : ∀ i x H, xs[i]? = some x → Pv i H → B x H (Pv (i + 1))) (hd : ∀ H, Pv xs.length H → Qd H) :
    ∃ W : Nat → Nat → Hp → Prop, (∃ m, W 0 m G0) ∧ ∀ i m H, W i m H → ((Itt K a).stop i H ∧ Qd H) ∨ ((Itt K a).go i H ∧ ∃ Nx : Hp → Prop, (∀ H', Nx H' → ∃ m', m' < m ∧ W (i + 1) m' H') ∧ ∀ x H', (Itt K a).yld i H x H' → B x H' Nx) := by
  refine ⟨fun i m H => m = xs.length - i ∧ i ≤ xs.length ∧ Pv i H, ⟨xs.length, rfl, Nat.zero_le _, h0⟩, fun i m H hw => ?_⟩
  obtain ⟨rfl, hi, p⟩ := hw
  have q := hl i H hi p
  by_cases lt : i < xs.length
  · refine .inr ⟨⟨xs, xs[i], q, List.getElem?_eq_getElem lt⟩, Pv (i + 1), fun H' n => ⟨xs.length - (i + 1), by omega, rfl, lt, n⟩, fun x H' hy => ?_⟩
    obtain ⟨rfl, hx⟩ := hy
    exact hs i x H' (hx xs q) p
  · refine .inl ⟨⟨xs, q, by omega⟩, hd H ?_⟩
    have e : i = xs.length := by omega
    exact e ▸ p
end

def spLaw (K : PySem.W.Frag) : Sp := fun vs H Q _ => ∃ (a : Addr) (ns : List Int), vs = [.ref a] ∧ SqL K H a (ns.map V.int) ∧ ns.length ≤ 63 ∧ ∀ H', Q (.bl true) H'
/-- the law's pairs: a value, and whether it is a tree -/
inductive PGs (K : PySem.W.Frag) (H : Hp) (c : Int) : List V → List V → List GT → Prop where
  | nil : PGs K H c [] [] []
  | cons {p : Addr} {v : V} {g : GT} {ws vs : List V} {gs : List GT} (h : H p = some (.lst [v, .bl (fine c g)])) (hg : GR K H v g) (hz : g.sz ≤ 200) (r : PGs K H c ws vs gs) : PGs K H c (.ref p :: ws) (v :: vs) (g :: gs)
section
variable {K : PySem.W.Frag} {H H' : Hp} {c : Int} {ws vs : List V} {gs : List GT}
theorem PGs.same (h : PGs K H c ws vs gs) (e : Same H H') : PGs K H' c ws vs gs := by
  induction h with
  | nil => exact .nil
  | cons h hg hz _ ih => exact .cons (e _ _ h) (hg.same e) hz ih
theorem PGs.len (h : PGs K H c ws vs gs) : ws.length = vs.length ∧ vs.length = gs.length := by
  induction h with
  | nil => exact ⟨rfl, rfl⟩
  | cons h hg hz _ ih => exact ⟨congrArg (· + 1) ih.1, congrArg (· + 1) ih.2⟩
theorem PGs.snoc {p : Addr} {v : V} {g : GT} (h : PGs K H c ws vs gs) (hp : H p = some (.lst [v, .bl (fine c g)])) (hg : GR K H v g) (hz : g.sz ≤ 200) : PGs K H c (ws ++ [.ref p]) (vs ++ [v]) (gs ++ [g]) := by
  induction h with
  | nil => exact .cons hp hg hz .nil
  | cons h hg2 hz2 _ ih => exact .cons h hg2 hz2 ih
theorem PGs.grs (h : PGs K H c ws vs gs) : GRs K H vs gs := by
  induction h with
  | nil => exact .nil
  | cons h hg hz _ ih => exact .cons hg ih
theorem PGs.get (h : PGs K H c ws vs gs) : ∀ {i : Nat} {x : V}, ws[i]? = some x → ∃ p v g, x = .ref p ∧ vs[i]? = some v ∧ gs[i]? = some g ∧ H p = some (.lst [v, .bl (fine c g)]) := by
  induction h with
  | nil => exact fun e => nomatch e
  | cons h hg hz _ ih =>
    rintro (_ | i) x e
    · exact ⟨_, _, _, (Option.some.inj e).symm, rfl, rfl, h⟩
    · exact ih e
end
/-- the values that are no trees -/
def bads (c : Int) : List V → List GT → List V
  | v :: vs, g :: gs => (if fine c g = true then [] else [v]) ++ bads c vs gs
  | _, _ => []
theorem bads_head (c : Int) : ∀ (vs : List V) (gs : List GT), (bads c vs gs).head? = fbad c vs gs
  | [], gs => by cases gs <;> rfl
  | v :: vs, [] => rfl
  | v :: vs, g :: gs => by
    rw [bads, fbad]
    by_cases h : fine c g = true
    · rw [if_pos h, if_pos h]
      exact bads_head c vs gs
    · rw [if_neg h, if_neg h]
      rfl
theorem bads_take {c : Int} {v : V} {g : GT} : ∀ {vs : List V} {gs : List GT} {i : Nat}, vs[i]? = some v → gs[i]? = some g → bads c (vs.take (i + 1)) (gs.take (i + 1)) = bads c (vs.take i) (gs.take i) ++ (if fine c g = true then [] else [v])
  | x :: vs, y :: gs, 0, e1, e2 => by
    cases e1
    cases e2
    simp [bads]
  | x :: vs, y :: gs, i + 1, e1, e2 => by
    rw [List.take_succ_cons, List.take_succ_cons, List.take_succ_cons, List.take_succ_cons, bads, bads, bads_take (i := i) e1 e2, List.append_assoc]
theorem bads_len (c : Int) : ∀ (vs : List V) (gs : List GT), (bads c vs gs).length ≤ vs.length
  | [], gs => by cases gs <;> exact Nat.le_refl _
  | v :: vs, [] => Nat.zero_le _
  | v :: vs, g :: gs => by
    have := bads_len c vs gs
    rw [bads, List.length_append, List.length_cons]
    split <;> simp <;> omega
theorem fbad_gr {K : PySem.W.Frag} {H : Hp} {c : Int} {ws vs : List V} {gs : List GT} (h : PGs K H c ws vs gs) {u : V} (e : fbad c vs gs = some u) : ∃ g, GR K H u g ∧ g.sz ≤ 200 := by
  induction h with
  | nil => cases e
  | cons h hg hz _ ih =>
    rw [fbad] at e
    split at e
    · exact ih e
    · cases e
      exact ⟨_, hg, hz⟩
/-- what is due -/
def Due (K : PySem.W.Frag) (H : Hp) (d : Addr) (f : Option V) : Prop := match f with
  | none => H d = some (.lst [.non])
  | some u => H d = some (.lst [.str "BadTree", u, .bl true, .bl false])
theorem Due.same {K : PySem.W.Frag} {H H' : Hp} {d : Addr} {f : Option V} (h : Due K H d f) (s : Same H H') : Due K H' d f := by
  cases f <;> exact s _ _ h
theorem al_bad {K : PySem.W.Frag} {H : Hp} {p d : Addr} {u : V} {g : GT} {t : Str} (h1 : H p = some (.lst [.str t, u, .bl true, .bl false])) (h2 : H d = some (.lst [.str t, u, .bl true, .bl false])) (hg : GR K H u g) : Al K H (.ref p) (.ref d) (1 + (g.sz + (1 + (1 + 0))) + 1) :=
  .lst (sql h1) (sql h2) (.cons (.str _) (.cons hg.al (.cons (.bl _) (.cons (.bl _) .nil))))
section
variable {P : Program} {w : World} {K : PySem.W.Frag} {mg : Str → Option Value} {base : Heap}
theorem ok_law {f : Addr} {fd : FuncData} (F : Fun K "law" "law" s_law f fd) (T : Txt K mg) : FnOk P w K mg base CX0 7 f fd ["_law_script"] (spLaw K) := by
  refine F.ok sc_law (fun vs H Q E h => ?_) (fun cdv A outer s H vs Q E hr h => ⟨_, (pss_cons (ps_set (i := 1) sc_law.nd rfl (.inl rfl) (pe_call (ok_stream T) (hr.mono (by decide)) (by rfl) T.g_stream T.F_stream.kp T.b_stream .nil pass0 (pa_cons (pv 0) pa_nil)))
      (pss_cons (ps_set (i := 2) sc_law.nd rfl (.inl rfl) (pe_call (ok_draw T) (hr.mono (by decide)) (by rfl) T.g_draw T.F_draw.kp T.b_draw .nil pass0 (pa_cons (pv 1) (pa_cons pe_int pa_nil))))
      (pss_cons (ps_set (i := 3) sc_law.nd rfl (.inl rfl) (pe_call (ok_maybe_tree T) (hr.mono (by decide)) (by rfl) T.g_maybe_tree T.F_maybe_tree.kp T.b_maybe_tree .nil pass0 (pa_cons (pv 1) (pa_cons (pv 2) pa_nil))))
      (pss_cons (ps_set (i := 4) sc_law.nd rfl (.inl rfl) (pe_lst (pa_cons pe_non pa_nil)))
      (Evl.pss_cut (ps_if (pt_not (pt_val (pe_ix ix_list (pv 3) pe_int (fun _ _ => rfl))))
      (pss_one (ps_set (i := 4) sc_law.nd rfl (.inl rfl) (pe_lst (pa_cons pe_str (pa_cons (pe_ix ix_list (pv 3) pe_int (fun _ _ => rfl)) (pa_cons pe_bl (pa_cons pe_bl pa_nil)))))))
      pss_nil)
      (pss_cons (ps_if (pt_mid (pt_not (pt_val (pe_call (ok_alike T) (hr.mono (by decide)) (by rfl) T.g_alike T.F_alike.kp T.b_alike .nil pass0 (pa_cons (pe_call (ok_checked T) (hr.mono (by decide)) (by rfl) T.g_checked T.F_checked.kp T.b_checked .nil pass0 (pa_cons (pe_ix ix_list (pv 3) pe_int (fun _ _ => rfl)) (pa_cons (pv 2) (pa_cons pe_bl pa_nil)))) (pa_cons (pv 4) pa_nil))))))
      (pss_one (ps_ret pe_bl))
      pss_nil)
      (pss_cons (ps_set (i := 5) sc_law.nd rfl (.inl rfl) (pe_lst pa_nil))
      (pss_cons (ps_for PassesOwn.never rfl (pi_range1 (by rfl) T.z_range (pa_cons (pe_call (ok_draw T) (hr.mono (by decide)) (by rfl) T.g_draw T.F_draw.kp T.b_draw .nil pass0 (pa_cons (pv 1) (pa_cons pe_int pa_nil))) pa_nil)) (pg_name (i := 6) sc_law.nd rfl (.inl rfl))
      (pss_one (ps_expr (pe_bm PySem.F.plainAttrs_list PySem.F.slot_list_append PySem.F.type_list_append mt_append (pv 5) (pa_cons (pe_call (ok_maybe_tree T) (hr.mono (by decide)) (by rfl) T.g_maybe_tree T.F_maybe_tree.kp T.b_maybe_tree .nil pass0 (pa_cons (pv 1) (pa_cons (pv 2) pa_nil))) pa_nil)))))
      (pss_cons (ps_set (i := 4) sc_law.nd rfl (.inl rfl) (pe_lst (pa_cons pe_non pa_nil)))
      (pss_cons (ps_setLc (i := 7) (own := [("_law_one", 8)]) (g := gName 8) rfl sc_law.nd rfl rfl (sw_true rfl rfl rfl (by decide +kernel)) (pi_list (pv 5)) (blkOk_by (own := [("_law_one", 8)]) (N := N_law) (sc := defScope s_law) (by decide +kernel)) (fun _ _ _ _ _ => pg_name (i := 8) sc_law.nd rfl (Or.inl rfl)) (fun _ _ _ _ _ => pts_one (pt_not (pt_val (pe_ix ix_listB (pv 8) pe_int (fun _ _ => rfl))))) (fun _ _ _ _ _ => (pe_ix ix_listB (pv 8) pe_int (fun _ _ => rfl))))
      (Evl.pss_cut (ps_if (pt_cmpR op_gt (pe_callB call_len_seq (by rfl) T.z_len PySem.boot_len (pa_cons (pv 7) pa_nil)) pe_int (nomark _))
      (pss_one (ps_set (i := 4) sc_law.nd rfl (.inl rfl) (pe_lst (pa_cons pe_str (pa_cons (pe_ix ix_list (pv 7) pe_int (fun _ _ => rfl)) (pa_cons pe_bl (pa_cons pe_bl pa_nil)))))))
      pss_nil)
      (Evl.pss_cut (ps_if (pt_cmpR op_gt (pe_callB call_len_seq (by rfl) T.z_len PySem.boot_len (pa_cons (pv 5) pa_nil)) pe_int (nomark _))
      (pss_one (ps_set (i := 4) sc_law.nd rfl (.inl rfl) (pe_lst (pa_cons pe_str (pa_cons (pe_callB call_len_seq (by rfl) T.z_len PySem.boot_len (pa_cons (pv 5) pa_nil)) (pa_cons pe_bl (pa_cons pe_bl pa_nil)))))))
      pss_nil)
      (pss_one (ps_ret (pe_call (ok_alike T) (hr.mono (by decide)) (by rfl) T.g_alike T.F_alike.kp T.b_alike .nil pass0 (pa_cons (pe_call (ok_checked T) (hr.mono (by decide)) (by rfl) T.g_checked T.F_checked.kp T.b_checked .nil pass0 (pa_cons (pe_lc (own := [("_law_one", 8)]) (g := gName 8) (tt := tYes) rfl sc_law.nd (pi_list (pv 5)) (blkOk_by (own := [("_law_one", 8)]) (N := N_law) (sc := defScope s_law) (by decide +kernel)) (fun _ _ _ _ _ => pg_name (i := 8) sc_law.nd rfl (Or.inl rfl)) (fun _ _ _ _ _ => pts_nil) (fun _ _ _ _ _ => (pe_ix ix_listB (pv 8) pe_int (fun _ _ => rfl)))) (pa_cons (pv 2) (pa_cons pe_bl pa_nil)))) (pa_cons (pv 4) pa_nil))))))))))))))))), ?_⟩)
  · first | (obtain ⟨rfl, _⟩ := h; rfl) | (obtain ⟨_, rfl, _⟩ := h; rfl) | (obtain ⟨_, _, rfl, _⟩ := h; rfl) | (obtain ⟨_, _, _, rfl, _⟩ := h; rfl) | (obtain ⟨_, _, _, _, rfl, _⟩ := h; rfl) | (obtain ⟨_, _, _, _, _, rfl, _⟩ := h; rfl) | (obtain ⟨_, _, _, _, _, _, rfl, _⟩ := h; rfl) | (obtain ⟨_, _, _, _, _, _, _, rfl, _⟩ := h; rfl) | (obtain ⟨_, _, _, _, _, _, _, _, rfl, _⟩ := h; rfl) | (obtain ⟨_, _, _, _, _, _, _, _, _, rfl, _⟩ := h; rfl) | (obtain ⟨_, _, _, _, _, _, _, _, _, _, rfl, _⟩ := h; rfl) | (obtain ⟨_, _, _, _, _, _, _, _, _, _, _, rfl, _⟩ := h; rfl) | (obtain ⟨_, _, _, _, _, _, _, _, _, _, _, _, rfl, _⟩ := h; rfl) | (obtain ⟨_, _, _, _, _, _, _, _, _, _, _, _, _, rfl, _⟩ := h; rfl) | (obtain ⟨_, _, _, _, _, _, _, _, _, _, _, _, _, _, rfl, _⟩ := h; rfl)
  · obtain ⟨a, ns, rfl, hS, hl, k⟩ := h
    try dsimp only [cxOf, Cx.nox, Cx.wish]
    refine st_of (σ := [some _, none, none, none, none, none, none, none, none]) rfl ?_
    walk_at "rd"
    refine ⟨a, ns, rfl, hS, hl, fun S L H1 _ _ st1 => ?_⟩
    walk_at "rd"
    refine use_draw st1 (by decide) (by decide) (fun c H2 c0 c1 x2 st2 => ?_)
    walk_at "rd"
    refine ⟨S, L, ns, c, rfl, st2, c0, by omega, fun p v g H3 x3 st3 gp gr hz => ?_⟩
    walk_at "rd"
    refine fun d hd => alc _ hd (fun H4 s4 g4 => ?_)
    have st4 := st3.same s4
    have gp4 := s4 _ _ (Nw.to _ _ gp)
    have gr4 := (gr.same Nw.to).same s4
    have qp4 : SqL K H4 p _ := sql gp4
    walk_at "rd"
    refine ⟨fun σ' G' => ∃ d, σ' = [some (.ref a), some (.ref S), some (.int c), some (.ref p), some (.ref d), none, none, none, none] ∧ Same H4 G' ∧ Due K G' d (if fine c g = true then none else some v), ?_, ?_⟩
    · walk_at "rd"
      cases hf : fine c g with
      | true =>
        refine i_F rfl ?_
        walk_at "rd"
        exact ⟨Same.refl _, by rw [if_pos rfl]; exact g4⟩
      | false =>
        refine i_T rfl ?_
        rw [hf] at qp4
        walk_at "rd"
        refine fun d2 hd2 => alc _ hd2 (fun H5 s5 g5 => ?_)
        walk_at "rd"
        exact ⟨s5, by rw [if_neg Bool.false_ne_true]; exact g5⟩
    · rintro σ' G ⟨d, rfl, s5, due⟩
      have st5 := st4.same s5
      have gr5 := gr4.same s5
      have qp5 : SqL K G p _ := sql (s5 _ _ gp4)
      walk_at "rd"
      refine ⟨fun b H' => b = false ∧ Same G H', ?_, ?_⟩
      · walk_at "rd"
        refine ⟨v, c, false, rfl, .inl ⟨g, rfl, gr5, fun hf q G2 s6 hq gq => ?_, fun hf q G2 s6 hq gq => ?_⟩⟩
        · rw [if_pos hf] at due
          walk_at "rd"
          refine use_alike (.lst (sql gq) (sql (s6 _ _ due)) (.cons .non .nil)) (by decide) (fun H7 s7 => ?_)
          walk_at "rd"
          exact ⟨rfl, s6.trans s7⟩
        · rw [if_neg (by rw [hf]; decide)] at due
          walk_at "rd"
          refine use_alike (al_bad gq (s6 _ _ due) (gr5.same s6)) (by omega) (fun H7 s7 => ?_)
          walk_at "rd"
          exact ⟨rfl, s6.trans s7⟩
      rintro b H6 ⟨rfl, s6⟩
      have st6 := st5.same s6
      refine i_F rfl ?_
      walk_at "rd"
      refine fun VL hVL => alc _ hVL (fun H7 s7 g7 => ?_)
      have st7 := st6.same s7
      have nVS := st6.neS hVL
      have nVL := st6.neL hVL
      walk_at "rd"
      with_reducible refine c_rng1 ?_
      walk_at "rd"
      refine use_draw st7 (by decide) (by decide) (fun n H8 n0 n1 x8 st8 => ?_)
      have g8 := x8 _ _ nVS g7
      walk_at "rd"
      refine ⟨by omega, by omega, for_range (lo := 0) (n := n.toNat) (fun i σ G => ∃ (e6 : Option V) (ws vs : List V) (gs : List GT), σ = [some (.ref a), some (.ref S), some (.int c), some (.ref p), some (.ref d), some (.ref VL), e6, none, none] ∧ Strm S L ns G ∧ G VL = some (.lst ws) ∧ PGs K (Aw VL (Aw S G)) c ws vs gs ∧ ws.length = i) ?_ ?_ ?_⟩
      · exact ⟨_, [], [], [], rfl, st8, g8, .nil, rfl⟩
      · rintro i σ G hi ⟨e6, ws, vs, gs, rfl, stG, gV, pg, hw⟩
        have qV : SqL K G VL ws := sql gV
        walk_at "rd"
        refine ⟨S, L, ns, c, rfl, stG, c0, by omega, fun p2 v2 g2 H9 x9 st9 gp2 gr2 hz2 => ?_⟩
        have gV9 := x9 _ _ nVS gV
        have hsz : ws.length < sizeLine := smallLt (by omega)
        obtain ⟨_, _, _, eS0, _⟩ := id stG.at_
        have up : Same (Nw G H9) (Aw VL (Aw S (upd H9 VL (.lst (ws ++ [.ref p2]))))) := Same.trans (fun a o h => Aw.of (Nw.aw eS0 a o h) (Nw.ne h gV)) Aw.at
        walk_at "rd"
        exact ⟨_, ws ++ [.ref p2], vs ++ [v2], gs ++ [g2], rfl, st9.upd nVS nVL, upd_same, (pg.same ((Aw.same (Aw.ex x9)).trans Aw.at)).snoc (up _ _ gp2) (gr2.same up) hz2, by simp [hw]⟩
      · rintro σ G ⟨e6, ws, vs, gs, rfl, stG, gV, pg, hw⟩
        replace pg := pg.same (Aw.to.trans Aw.to)
        obtain ⟨hl1, hl2⟩ := pg.len
        have qV : SqL K G VL ws := sql gV
        walk_at "rd"
        refine fun d0 hd0 => alc _ hd0 (fun G1 s1 g1 => ?_)
        have qV1 : SqL K G1 VL ws := seq' qV s1
        walk_at "rd"
        with_reducible refine c_lcL ?_
        walk_at "rd"
        refine ⟨⟨_, qV1⟩, fun D hD => walkL (xs := ws) (fun i G' => Same G1 G' ∧ G' D = some (.lst (bads c (vs.take i) (gs.take i)))) ?_ ?_ ?_ ?_⟩
        · exact ⟨same_new (Same.refl _) hD, by simp only [List.take_zero, bads]; exact upd_same⟩
        · rintro i G' _ ⟨s2, _⟩
          exact seq' qV1 s2
        · rintro i x G' hi ⟨s2, gD⟩
          obtain ⟨p2, v2, g2, rfl, ev, eg, hp2⟩ := pg.get hi
          have q2 : SqL K G' p2 _ := sql (s2 _ _ (s1 _ _ hp2))
          have hil : i < ws.length := (List.getElem?_eq_some_iff.mp hi).1
          have hbl := bads_len c (vs.take i) (gs.take i)
          rw [List.length_take] at hbl
          have hsz : (bads c (vs.take i) (gs.take i)).length < sizeLine := smallLt (by omega)
          have tk := bads_take ev eg (c := c)
          rw [tk]
          have hD1 : ∀ o, Same G1 (upd G' D o) := fun o => same_mut s2 hD
          walk_at "rd"
          refine ⟨rfl, ?_⟩
          cases hf : fine c g2 with
          | true =>
            rw [hf] at q2
            walk_at "rd"
            exact ⟨s2, by rw [if_pos rfl, List.append_nil]; exact gD⟩
          | false =>
            rw [hf] at q2
            rw [if_neg Bool.false_ne_true]
            walk_at "rd"
            rw [if_pos (show (!false) = true from rfl)]
            walk_at "rd"
            first
            | exact ⟨_, gD, hsz, hD1 _, upd_same⟩
            | exact ⟨gD, hsz, hD1 _, upd_same⟩
            | exact ⟨hsz, hD1 _, upd_same⟩
            | exact ⟨hD1 _, upd_same⟩
        · rintro G2 ⟨s2, gD⟩
          rw [hl1, List.take_length, hl2, List.take_length] at gD
          have qD : SqL K G2 D _ := sql gD
          have qV2 : SqL K G2 VL ws := seq' qV1 s2
          have g12 := s2 _ _ g1
          have pg2 := pg.same (s1.trans s2)
          have hbl := bads_len c vs gs
          walk_at "rd"
          refine ⟨fun σ' G' => ∃ d, σ' = [some (.ref a), some (.ref S), some (.int c), some (.ref p), some (.ref d), some (.ref VL), e6, some (.ref D), none] ∧ Same G2 G' ∧ Due K G' d (fbad c vs gs), ?_, ?_⟩
          · have hh := bads_head c vs gs
            cases hb : bads c vs gs with
            | nil =>
              rw [hb] at hh qD
              rw [← hh]
              walk_at "rd"
              refine i_F (by simp) ?_
              walk_at "rd"
              exact ⟨Same.refl _, g12⟩
            | cons u r =>
              rw [hb] at hh qD
              rw [← hh]
              walk_at "rd"
              refine i_T (by simp) ?_
              walk_at "rd"
              refine fun d2 hd2 => alc _ hd2 (fun G3 s3 g3 => ?_)
              walk_at "rd"
              exact ⟨s3, g3⟩
          rintro σ' G3 ⟨d3, rfl, s3, due3⟩
          have qV3 : SqL K G3 VL ws := seq' qV2 s3
          have pg3 := pg2.same s3
          walk_at "rd"
          refine ⟨fun σ' G' => ∃ d, σ' = [some (.ref a), some (.ref S), some (.int c), some (.ref p), some (.ref d), some (.ref VL), e6, some (.ref D), none] ∧ Same G3 G' ∧ (4 < vs.length → G' d = some (.lst [.str "TooMany", .int vs.length, .bl true, .bl false])) ∧ (vs.length ≤ 4 → Due K G' d (fbad c vs gs)), ?_, ?_⟩
          · walk_at "rd"
            by_cases h4 : 4 < vs.length
            · refine i_T (by simp; omega) ?_
              walk_at "rd"
              refine fun d2 hd2 => alc _ hd2 (fun G4 s4 g4 => ?_)
              walk_at "rd"
              exact ⟨s4, fun _ => by rw [← hl1]; exact g4, fun z => absurd h4 (by omega)⟩
            · refine i_F (by simp; omega) ?_
              walk_at "rd"
              exact ⟨Same.refl _, fun z => absurd z h4, fun _ => due3⟩
          rintro σ' G4 ⟨d4, rfl, s4, dm, df⟩
          have qV4 : SqL K G4 VL ws := seq' qV3 s4
          have pg4 := pg3.same s4
          walk_at "rd"
          with_reducible refine c_lcL ?_
          walk_at "rd"
          refine ⟨⟨_, qV4⟩, fun D5 hD5 => walkL (xs := ws) (fun i G' => Same G4 G' ∧ G' D5 = some (.lst (vs.take i))) ?_ ?_ ?_ ?_⟩
          · exact ⟨same_new (Same.refl _) hD5, by rw [List.take_zero]; exact upd_same⟩
          · rintro i G' _ ⟨s5, _⟩
            exact seq' qV4 s5
          · rintro i x G' hi ⟨s5, gD5⟩
            obtain ⟨p2, v2, g2, rfl, ev, eg, hp2⟩ := pg4.get hi
            have q2 : SqL K G' p2 _ := sql (s5 _ _ hp2)
            have hil : i < ws.length := (List.getElem?_eq_some_iff.mp hi).1
            have hsz : (vs.take i).length < sizeLine := smallLt (by rw [List.length_take]; omega)
            rw [List.take_succ, ev]
            walk_at "rd"
            refine ⟨rfl, ?_⟩
            walk_at "rd"
            first
            | exact ⟨_, gD5, hsz, same_mut s5 hD5, upd_same⟩
            | exact ⟨gD5, hsz, same_mut s5 hD5, upd_same⟩
            | exact ⟨hsz, same_mut s5 hD5, upd_same⟩
            | exact ⟨same_mut s5 hD5, upd_same⟩
          · rintro G5 ⟨s5, gD5⟩
            rw [hl1, List.take_length] at gD5
            have qD5 : SqL K G5 D5 _ := sql gD5
            walk_at "rd"
            refine ⟨.ref D5, c, true, rfl, .inr ⟨D5, vs, gs, rfl, rfl, qD5, (pg4.same s5).grs, by omega, fun h4 q H' s6 hq gq => ?_, fun h4 => ⟨fun u hu q H' s6 hq gq => ?_, fun hn q H' s6 hq gq => ?_⟩⟩⟩
            · have due := (s5.trans s6) _ _ (dm h4)
              walk_at "rd"
              refine use_alike (.lst (sql gq) (sql due) (.cons (.str _) (.cons (.int _) (.cons (.bl _) (.cons (.bl _) .nil))))) (by decide) (fun H7 s7 => ?_)
              exact k _
            · have due := (df h4).same (s5.trans s6)
              rw [hu] at due
              obtain ⟨g9, gr9, hz9⟩ := fbad_gr (pg4.same s5) hu
              walk_at "rd"
              refine use_alike (al_bad gq due (gr9.same s6)) (by omega) (fun H7 s7 => ?_)
              exact k _
            · have due := (df h4).same (s5.trans s6)
              rw [hn] at due
              walk_at "rd"
              refine use_alike (.lst (sql gq) (sql due) (.cons .non .nil)) (by decide) (fun H7 s7 => ?_)
              exact k _
end
end Tac2
theorem all_mk {l : PySem.W.OpenLaw} {w : World} {K : PySem.W.Frag} {h : Heap} {mg : Str → Option Value} {fa : Addr} (X : K.In h) (G : h.Ns mainGlobals mg) (hfa : mg "law" = some (.ref fa))
    {C_PagesError : Addr}
    {C_BadTree : Addr}
    {C_TooMany : Addr}
    {nm_BadTree q_BadTree : Str} {NS_BadTree : Addr} {bs_BadTree : List Value} {sn_BadTree : List Str} {sb_BadTree : List Value} {ab_BadTree : Bool} {co_BadTree : Option Bool} {dd_BadTree : Option Addr} {m0_BadTree m1_BadTree m2_BadTree m3_BadTree m5_BadTree : Option Value}
    {nm_TooMany q_TooMany : Str} {NS_TooMany : Addr} {bs_TooMany : List Value} {sn_TooMany : List Str} {sb_TooMany : List Value} {ab_TooMany : Bool} {co_TooMany : Option Bool} {dd_TooMany : Option Addr} {m0_TooMany m1_TooMany m2_TooMany m3_TooMany m5_TooMany : Option Value}
    {f0 : Addr} {od0 an0 : Option Addr} {sl0 : Array (Option Value)} {oc0 kV0 dc0 pm0 cd0 ct0 : Value}
    {f1 : Addr} {od1 an1 : Option Addr} {sl1 : Array (Option Value)} {oc1 kV1 dc1 pm1 cd1 ct1 : Value}
    {f2 : Addr} {od2 an2 : Option Addr} {sl2 : Array (Option Value)} {oc2 kV2 dc2 pm2 cd2 ct2 : Value}
    {f3 : Addr} {od3 an3 : Option Addr} {sl3 : Array (Option Value)} {oc3 kV3 dc3 pm3 cd3 ct3 : Value}
    {f4 : Addr} {od4 an4 : Option Addr} {sl4 : Array (Option Value)} {oc4 kV4 dc4 pm4 cd4 ct4 : Value}
    {f5 : Addr} {od5 an5 : Option Addr} {sl5 : Array (Option Value)} {oc5 kV5 dc5 pm5 cd5 ct5 : Value}
    {f6 : Addr} {od6 an6 : Option Addr} {sl6 : Array (Option Value)} {oc6 kV6 dc6 pm6 cd6 ct6 : Value}
    {f7 : Addr} {od7 an7 : Option Addr} {sl7 : Array (Option Value)} {oc7 kV7 dc7 pm7 cd7 ct7 : Value}
    {f8 : Addr} {od8 an8 : Option Addr} {sl8 : Array (Option Value)} {oc8 kV8 dc8 pm8 cd8 ct8 : Value}
    {f9 : Addr} {od9 an9 : Option Addr} {sl9 : Array (Option Value)} {oc9 kV9 dc9 pm9 cd9 ct9 : Value}
    {f10 : Addr} {od10 an10 : Option Addr} {sl10 : Array (Option Value)} {oc10 kV10 dc10 pm10 cd10 ct10 : Value}
    {f11 : Addr} {od11 an11 : Option Addr} {sl11 : Array (Option Value)} {oc11 kV11 dc11 pm11 cd11 ct11 : Value}
    {f12 : Addr} {od12 an12 : Option Addr} {sl12 : Array (Option Value)} {oc12 kV12 dc12 pm12 cd12 ct12 : Value}
    {f13 : Addr} {od13 an13 : Option Addr} {sl13 : Array (Option Value)} {oc13 kV13 dc13 pm13 cd13 ct13 : Value}
    {f14 : Addr} {od14 an14 : Option Addr} {sl14 : Array (Option Value)} {oc14 kV14 dc14 pm14 cd14 ct14 : Value}
    {f15 : Addr} {od15 an15 : Option Addr} {sl15 : Array (Option Value)} {oc15 kV15 dc15 pm15 cd15 ct15 : Value}
    {t_MOST : Tok}
    {t_MOST_NODES : Tok}
    {c_WORDS : Addr}
    {dd_WORDS : Option Addr} {nn_WORDS : Nat} {ss_WORDS : Array (Option Value)} {t_WORDS_0 : Tok} {t_WORDS_1 : Tok} {t_WORDS_2 : Tok}
    (gC_PagesError : PySem.W.nsIn K mainGlobals "PagesError" = some (some (.ref C_PagesError)))
    (gC_BadTree : PySem.W.nsIn K mainGlobals "BadTree" = some (some (.ref C_BadTree)))
    (gC_TooMany : PySem.W.nsIn K mainGlobals "TooMany" = some (some (.ref C_TooMany)))
    (kgC : PySem.W.specialIn K (.builtin "object.__class__") "__get__" = some (some (.builtin "getset_descriptor.__get__")))
    (ktC : PySem.W.takesIn K (.builtin "object.__class__") = some true)
    (ga_PagesError : PySem.W.findIn K (.ref C_PagesError) "__getattribute__" = some (some (.builtin "BaseException.__getattribute__")))
    (gt_PagesError : PySem.W.findIn K (.ref C_PagesError) "__getattr__" = some none)
    (sub_PagesError : PySem.W.subIn K (.ref C_PagesError) (.type "BaseException") = some true)
    (kc_PagesError : PySem.W.findIn K (.ref C_PagesError) "__class__" = some (some (.builtin "object.__class__")))
    (ob_PagesError : PySem.W.mroIn K C_PagesError (.type "object") = some true)
    (cI_PagesError : PySem.W.isClsIn K C_PagesError = true)
    (cT_PagesError : PySem.W.typeIn K (.ref C_PagesError) = some (.type "type"))
    (hd_PagesError : PySem.W.hasDictIn K C_PagesError = true)
    (kC_PagesError : PySem.W.keepIn K (.ref C_PagesError) = true)
    (xF_PagesError : PySem.W.excIn K C_PagesError [.type "ValueError", .type "Exception", .type "BaseException", .type "object"] "ValueError.__new__" = true)
    (sg_PagesError : PySem.W.specialIn K (.ref C_PagesError) "__getattribute__" = some (some (.builtin "type.__getattribute__")))
    (rd_PagesError : PySem.W.readsIn K C_PagesError (.type "type") = true)
    (vV_PagesError : PySem.W.findCls K (.ref C_PagesError) (.type "type") "__init__" = some (.val (.builtin "ValueError.__init__")))
    (su_PagesError_PagesError : PySem.W.subIn K (.ref C_PagesError) (.ref C_PagesError) = some true)
    (su_PagesError_BadTree : PySem.W.subIn K (.ref C_PagesError) (.ref C_BadTree) = some false)
    (su_PagesError_TooMany : PySem.W.subIn K (.ref C_PagesError) (.ref C_TooMany) = some false)
    (ga_BadTree : PySem.W.findIn K (.ref C_BadTree) "__getattribute__" = some (some (.builtin "BaseException.__getattribute__")))
    (gt_BadTree : PySem.W.findIn K (.ref C_BadTree) "__getattr__" = some none)
    (sub_BadTree : PySem.W.subIn K (.ref C_BadTree) (.type "BaseException") = some true)
    (kc_BadTree : PySem.W.findIn K (.ref C_BadTree) "__class__" = some (some (.builtin "object.__class__")))
    (ob_BadTree : PySem.W.mroIn K C_BadTree (.type "object") = some true)
    (cI_BadTree : PySem.W.isClsIn K C_BadTree = true)
    (cT_BadTree : PySem.W.typeIn K (.ref C_BadTree) = some (.type "type"))
    (hd_BadTree : PySem.W.hasDictIn K C_BadTree = true)
    (kC_BadTree : PySem.W.keepIn K (.ref C_BadTree) = true)
    (xL_BadTree : K.lookup C_BadTree = some (excClassObj nm_BadTree q_BadTree C_BadTree NS_BadTree bs_BadTree [.ref C_PagesError, .type "ValueError", .type "Exception", .type "BaseException", .type "object"] true sn_BadTree sb_BadTree ab_BadTree co_BadTree dd_BadTree m0_BadTree m1_BadTree m2_BadTree m3_BadTree m5_BadTree "ValueError.__new__"))
    (sa_BadTree : PySem.W.findIn K (.ref C_BadTree) "__setattr__" = some (some (.builtin "object.__setattr__")))
    (no_BadTree : PySem.W.findIn K (.ref C_BadTree) "tree" = some none)
    (su_BadTree_PagesError : PySem.W.subIn K (.ref C_BadTree) (.ref C_PagesError) = some true)
    (su_BadTree_BadTree : PySem.W.subIn K (.ref C_BadTree) (.ref C_BadTree) = some true)
    (su_BadTree_TooMany : PySem.W.subIn K (.ref C_BadTree) (.ref C_TooMany) = some false)
    (ga_TooMany : PySem.W.findIn K (.ref C_TooMany) "__getattribute__" = some (some (.builtin "BaseException.__getattribute__")))
    (gt_TooMany : PySem.W.findIn K (.ref C_TooMany) "__getattr__" = some none)
    (sub_TooMany : PySem.W.subIn K (.ref C_TooMany) (.type "BaseException") = some true)
    (kc_TooMany : PySem.W.findIn K (.ref C_TooMany) "__class__" = some (some (.builtin "object.__class__")))
    (ob_TooMany : PySem.W.mroIn K C_TooMany (.type "object") = some true)
    (cI_TooMany : PySem.W.isClsIn K C_TooMany = true)
    (cT_TooMany : PySem.W.typeIn K (.ref C_TooMany) = some (.type "type"))
    (hd_TooMany : PySem.W.hasDictIn K C_TooMany = true)
    (kC_TooMany : PySem.W.keepIn K (.ref C_TooMany) = true)
    (xL_TooMany : K.lookup C_TooMany = some (excClassObj nm_TooMany q_TooMany C_TooMany NS_TooMany bs_TooMany [.ref C_PagesError, .type "ValueError", .type "Exception", .type "BaseException", .type "object"] true sn_TooMany sb_TooMany ab_TooMany co_TooMany dd_TooMany m0_TooMany m1_TooMany m2_TooMany m3_TooMany m5_TooMany "ValueError.__new__"))
    (sa_TooMany : PySem.W.findIn K (.ref C_TooMany) "__setattr__" = some (some (.builtin "object.__setattr__")))
    (no_TooMany : PySem.W.findIn K (.ref C_TooMany) "many" = some none)
    (su_TooMany_PagesError : PySem.W.subIn K (.ref C_TooMany) (.ref C_PagesError) = some true)
    (su_TooMany_BadTree : PySem.W.subIn K (.ref C_TooMany) (.ref C_BadTree) = some false)
    (su_TooMany_TooMany : PySem.W.subIn K (.ref C_TooMany) (.ref C_TooMany) = some true)
    (a0 : PySem.W.findIn K (.ref C_BadTree) "__init__" = some (some (.ref f0)))
    (t0 : PySem.W.typeIn K (.ref f0) = some (.type "function"))
    (l0 : K.lookup f0 = some ⟨oc0, od0, .func (PySem.W.fnOf "__init__" "BadTree.__init__" (defArgs s_BadTree_init) (defBody s_BadTree_init) (defScope s_BadTree_init) .none kV0 dc0 pm0 an0 cd0 ct0), sl0⟩)
    (c0 : PySem.W.codeIn K cd0 "BadTree.__init__" = true)
    (k0 : PySem.W.keepIn K (.ref f0) = true)
    (a1 : PySem.W.findIn K (.ref C_TooMany) "__init__" = some (some (.ref f1)))
    (t1 : PySem.W.typeIn K (.ref f1) = some (.type "function"))
    (l1 : K.lookup f1 = some ⟨oc1, od1, .func (PySem.W.fnOf "__init__" "TooMany.__init__" (defArgs s_TooMany_init) (defBody s_TooMany_init) (defScope s_TooMany_init) .none kV1 dc1 pm1 an1 cd1 ct1), sl1⟩)
    (c1 : PySem.W.codeIn K cd1 "TooMany.__init__" = true)
    (k1 : PySem.W.keepIn K (.ref f1) = true)
    (a2 : PySem.W.nsIn K mainGlobals "is_between" = some (some (.ref f2)))
    (l2 : K.lookup f2 = some ⟨oc2, od2, .func (PySem.W.fnOf "is_between" "is_between" (defArgs s_is_between) (defBody s_is_between) (defScope s_is_between) .none kV2 dc2 pm2 an2 cd2 ct2), sl2⟩)
    (c2 : PySem.W.codeIn K cd2 "is_between" = true)
    (k2 : PySem.W.keepIn K (.ref f2) = true)
    (a3 : PySem.W.nsIn K mainGlobals "check_many" = some (some (.ref f3)))
    (l3 : K.lookup f3 = some ⟨oc3, od3, .func (PySem.W.fnOf "check_many" "check_many" (defArgs s_check_many) (defBody s_check_many) (defScope s_check_many) .none kV3 dc3 pm3 an3 cd3 ct3), sl3⟩)
    (c3 : PySem.W.codeIn K cd3 "check_many" = true)
    (k3 : PySem.W.keepIn K (.ref f3) = true)
    (a4 : PySem.W.nsIn K mainGlobals "is_joining" = some (some (.ref f4)))
    (l4 : K.lookup f4 = some ⟨oc4, od4, .func (PySem.W.fnOf "is_joining" "is_joining" (defArgs s_is_joining) (defBody s_is_joining) (defScope s_is_joining) .none kV4 dc4 pm4 an4 cd4 ct4), sl4⟩)
    (c4 : PySem.W.codeIn K cd4 "is_joining" = true)
    (k4 : PySem.W.keepIn K (.ref f4) = true)
    (a5 : PySem.W.nsIn K mainGlobals "check_tree" = some (some (.ref f5)))
    (l5 : K.lookup f5 = some ⟨oc5, od5, .func (PySem.W.fnOf "check_tree" "check_tree" (defArgs s_check_tree) (defBody s_check_tree) (defScope s_check_tree) .none kV5 dc5 pm5 an5 cd5 ct5), sl5⟩)
    (c5 : PySem.W.codeIn K cd5 "check_tree" = true)
    (k5 : PySem.W.keepIn K (.ref f5) = true)
    (a6 : PySem.W.nsIn K mainGlobals "check_plan" = some (some (.ref f6)))
    (l6 : K.lookup f6 = some ⟨oc6, od6, .func (PySem.W.fnOf "check_plan" "check_plan" (defArgs s_check_plan) (defBody s_check_plan) (defScope s_check_plan) .none kV6 dc6 pm6 an6 cd6 ct6), sl6⟩)
    (c6 : PySem.W.codeIn K cd6 "check_plan" = true)
    (k6 : PySem.W.keepIn K (.ref f6) = true)
    (a7 : PySem.W.nsIn K mainGlobals "_law_stream" = some (some (.ref f7)))
    (l7 : K.lookup f7 = some ⟨oc7, od7, .func (PySem.W.fnOf "_law_stream" "_law_stream" (defArgs s__law_stream) (defBody s__law_stream) (defScope s__law_stream) .none kV7 dc7 pm7 an7 cd7 ct7), sl7⟩)
    (c7 : PySem.W.codeIn K cd7 "_law_stream" = true)
    (k7 : PySem.W.keepIn K (.ref f7) = true)
    (a8 : PySem.W.nsIn K mainGlobals "_law_draw" = some (some (.ref f8)))
    (l8 : K.lookup f8 = some ⟨oc8, od8, .func (PySem.W.fnOf "_law_draw" "_law_draw" (defArgs s__law_draw) (defBody s__law_draw) (defScope s__law_draw) .none kV8 dc8 pm8 an8 cd8 ct8), sl8⟩)
    (c8 : PySem.W.codeIn K cd8 "_law_draw" = true)
    (k8 : PySem.W.keepIn K (.ref f8) = true)
    (a9 : PySem.W.nsIn K mainGlobals "_law_alike" = some (some (.ref f9)))
    (l9 : K.lookup f9 = some ⟨oc9, od9, .func (PySem.W.fnOf "_law_alike" "_law_alike" (defArgs s__law_alike) (defBody s__law_alike) (defScope s__law_alike) .none kV9 dc9 pm9 an9 cd9 ct9), sl9⟩)
    (c9 : PySem.W.codeIn K cd9 "_law_alike" = true)
    (k9 : PySem.W.keepIn K (.ref f9) = true)
    (a10 : PySem.W.nsIn K mainGlobals "_law_twig" = some (some (.ref f10)))
    (l10 : K.lookup f10 = some ⟨oc10, od10, .func (PySem.W.fnOf "_law_twig" "_law_twig" (defArgs s__law_twig) (defBody s__law_twig) (defScope s__law_twig) .none kV10 dc10 pm10 an10 cd10 ct10), sl10⟩)
    (c10 : PySem.W.codeIn K cd10 "_law_twig" = true)
    (k10 : PySem.W.keepIn K (.ref f10) = true)
    (a11 : PySem.W.nsIn K mainGlobals "_law_grown" = some (some (.ref f11)))
    (l11 : K.lookup f11 = some ⟨oc11, od11, .func (PySem.W.fnOf "_law_grown" "_law_grown" (defArgs s__law_grown) (defBody s__law_grown) (defScope s__law_grown) .none kV11 dc11 pm11 an11 cd11 ct11), sl11⟩)
    (c11 : PySem.W.codeIn K cd11 "_law_grown" = true)
    (k11 : PySem.W.keepIn K (.ref f11) = true)
    (a12 : PySem.W.nsIn K mainGlobals "_law_piece" = some (some (.ref f12)))
    (l12 : K.lookup f12 = some ⟨oc12, od12, .func (PySem.W.fnOf "_law_piece" "_law_piece" (defArgs s__law_piece) (defBody s__law_piece) (defScope s__law_piece) .none kV12 dc12 pm12 an12 cd12 ct12), sl12⟩)
    (c12 : PySem.W.codeIn K cd12 "_law_piece" = true)
    (k12 : PySem.W.keepIn K (.ref f12) = true)
    (a13 : PySem.W.nsIn K mainGlobals "_law_maybe_tree" = some (some (.ref f13)))
    (l13 : K.lookup f13 = some ⟨oc13, od13, .func (PySem.W.fnOf "_law_maybe_tree" "_law_maybe_tree" (defArgs s__law_maybe_tree) (defBody s__law_maybe_tree) (defScope s__law_maybe_tree) .none kV13 dc13 pm13 an13 cd13 ct13), sl13⟩)
    (c13 : PySem.W.codeIn K cd13 "_law_maybe_tree" = true)
    (k13 : PySem.W.keepIn K (.ref f13) = true)
    (a14 : PySem.W.nsIn K mainGlobals "_law_checked" = some (some (.ref f14)))
    (l14 : K.lookup f14 = some ⟨oc14, od14, .func (PySem.W.fnOf "_law_checked" "_law_checked" (defArgs s__law_checked) (defBody s__law_checked) (defScope s__law_checked) .none kV14 dc14 pm14 an14 cd14 ct14), sl14⟩)
    (c14 : PySem.W.codeIn K cd14 "_law_checked" = true)
    (k14 : PySem.W.keepIn K (.ref f14) = true)
    (a15 : PySem.W.nsIn K mainGlobals "law" = some (some (.ref f15)))
    (l15 : K.lookup f15 = some ⟨oc15, od15, .func (PySem.W.fnOf "law" "law" (defArgs s_law) (defBody s_law) (defScope s_law) .none kV15 dc15 pm15 an15 cd15 ct15), sl15⟩)
    (c15 : PySem.W.codeIn K cd15 "law" = true)
    (k15 : PySem.W.keepIn K (.ref f15) = true)
    (g_MOST : PySem.W.nsIn K mainGlobals "MOST" = some (some (.int (4) t_MOST)))
    (g_MOST_NODES : PySem.W.nsIn K mainGlobals "MOST_NODES" = some (some (.int (7) t_MOST_NODES)))
    (g_WORDS : PySem.W.nsIn K mainGlobals "WORDS" = some (some (.ref c_WORDS)))
    (l_WORDS : K.lookup c_WORDS = some ⟨.type "tuple", dd_WORDS, .seq #[.str "and" t_WORDS_0, .str "or" t_WORDS_1, .str "less" t_WORDS_2] nn_WORDS, ss_WORDS⟩)
    (z_abs : PySem.W.nsIn K mainGlobals "abs" = some none)
    (z_bool : PySem.W.nsIn K mainGlobals "bool" = some none)
    (z_int : PySem.W.nsIn K mainGlobals "int" = some none)
    (z_isinstance : PySem.W.nsIn K mainGlobals "isinstance" = some none)
    (z_len : PySem.W.nsIn K mainGlobals "len" = some none)
    (z_list : PySem.W.nsIn K mainGlobals "list" = some none)
    (z_max : PySem.W.nsIn K mainGlobals "max" = some none)
    (z_range : PySem.W.nsIn K mainGlobals "range" = some none)
    (z_str : PySem.W.nsIn K mainGlobals "str" = some none)
    (z_tuple : PySem.W.nsIn K mainGlobals "tuple" = some none) :
    ∃ fd : FuncData, (∀ (s : Shared) (v : Value), BindsTo s fd ⟨[v], []⟩ [("_law_script", v)]) ∧ ∀ base : Heap, K.In base → base.Ns mainGlobals mg → FnOk l.prog w K mg base CX0 7 fa fd ["_law_script"] (spLaw K) := by
  have e := hfa.symm.trans (PySem.W.mg_of X G a15)
  cases e
  have F0 := fun_mk (st := s_BadTree_init) l0 c0 k0
  have b0 := F0.binds (ps := ["self", "tree"]) fun _ _ _ _ _ _ us hl => match us, hl with | [_, _], _ => rfl
  have F1 := fun_mk (st := s_TooMany_init) l1 c1 k1
  have b1 := F1.binds (ps := ["self", "many"]) fun _ _ _ _ _ _ us hl => match us, hl with | [_, _], _ => rfl
  have F2 := fun_mk (st := s_is_between) l2 c2 k2
  have b2 := F2.binds (ps := ["value", "low", "high"]) fun _ _ _ _ _ _ us hl => match us, hl with | [_, _, _], _ => rfl
  have F3 := fun_mk (st := s_check_many) l3 c3 k3
  have b3 := F3.binds (ps := ["many"]) fun _ _ _ _ _ _ us hl => match us, hl with | [_], _ => rfl
  have F4 := fun_mk (st := s_is_joining) l4 c4 k4
  have b4 := F4.binds (ps := ["value"]) fun _ _ _ _ _ _ us hl => match us, hl with | [_], _ => rfl
  have F5 := fun_mk (st := s_check_tree) l5 c5 k5
  have b5 := F5.binds (ps := ["tree", "count"]) fun _ _ _ _ _ _ us hl => match us, hl with | [_, _], _ => rfl
  have F6 := fun_mk (st := s_check_plan) l6 c6 k6
  have b6 := F6.binds (ps := ["plan", "count"]) fun _ _ _ _ _ _ us hl => match us, hl with | [_, _], _ => rfl
  have F7 := fun_mk (st := s__law_stream) l7 c7 k7
  have b7 := F7.binds (ps := ["_law_script"]) fun _ _ _ _ _ _ us hl => match us, hl with | [_], _ => rfl
  have F8 := fun_mk (st := s__law_draw) l8 c8 k8
  have b8 := F8.binds (ps := ["_law_stream_here", "_law_many"]) fun _ _ _ _ _ _ us hl => match us, hl with | [_, _], _ => rfl
  have F9 := fun_mk (st := s__law_alike) l9 c9 k9
  have b9 := F9.binds (ps := ["_law_told", "_law_due"]) fun _ _ _ _ _ _ us hl => match us, hl with | [_, _], _ => rfl
  have F10 := fun_mk (st := s__law_twig) l10 c10 k10
  have b10 := F10.binds (ps := ["_law_stream_here", "_law_count", "_law_most"]) fun _ _ _ _ _ _ us hl => match us, hl with | [_, _, _], _ => rfl
  have F11 := fun_mk (st := s__law_grown) l11 c11 k11
  have b11 := F11.binds (ps := ["_law_twig_here"]) fun _ _ _ _ _ _ us hl => match us, hl with | [_], _ => rfl
  have F12 := fun_mk (st := s__law_piece) l12 c12 k12
  have b12 := F12.binds (ps := ["_law_stream_here", "_law_count"]) fun _ _ _ _ _ _ us hl => match us, hl with | [_, _], _ => rfl
  have F13 := fun_mk (st := s__law_maybe_tree) l13 c13 k13
  have b13 := F13.binds (ps := ["_law_stream_here", "_law_count"]) fun _ _ _ _ _ _ us hl => match us, hl with | [_, _], _ => rfl
  have F14 := fun_mk (st := s__law_checked) l14 c14 k14
  have b14 := F14.binds (ps := ["_law_value", "_law_count", "_law_whole"]) fun _ _ _ _ _ _ us hl => match us, hl with | [_, _, _], _ => rfl
  have F15 := fun_mk (st := s_law) l15 c15 k15
  have T : Txt K mg := { a_BadTree_init := _, d_BadTree_init := _, F_BadTree_init := F0, b_BadTree_init := b0, iC_BadTree := a0, tI_BadTree := t0, no_BadTree := no_BadTree, oc_BadTree := { cls := ⟨_, _, _, _, _, _, _, _, _, _, _, _, _, _, _, xL_BadTree, by rfl⟩, sa := sa_BadTree, exC := sub_BadTree, tyC := cT_BadTree, kC := kC_BadTree }, a_TooMany_init := _, d_TooMany_init := _, F_TooMany_init := F1, b_TooMany_init := b1, iC_TooMany := a1, tI_TooMany := t1, no_TooMany := no_TooMany, oc_TooMany := { cls := ⟨_, _, _, _, _, _, _, _, _, _, _, _, _, _, _, xL_TooMany, by rfl⟩, sa := sa_TooMany, exC := sub_TooMany, tyC := cT_TooMany, kC := kC_TooMany }, a_is_between := _, d_is_between := _, F_is_between := F2, b_is_between := b2, g_is_between := PySem.W.mg_of X G a2, a_check_many := _, d_check_many := _, F_check_many := F3, b_check_many := b3, g_check_many := PySem.W.mg_of X G a3, a_is_joining := _, d_is_joining := _, F_is_joining := F4, b_is_joining := b4, g_is_joining := PySem.W.mg_of X G a4, a_check_tree := _, d_check_tree := _, F_check_tree := F5, b_check_tree := b5, g_check_tree := PySem.W.mg_of X G a5, a_check_plan := _, d_check_plan := _, F_check_plan := F6, b_check_plan := b6, g_check_plan := PySem.W.mg_of X G a6, a_stream := _, d_stream := _, F_stream := F7, b_stream := b7, g_stream := PySem.W.mg_of X G a7, a_draw := _, d_draw := _, F_draw := F8, b_draw := b8, g_draw := PySem.W.mg_of X G a8, a_alike := _, d_alike := _, F_alike := F9, b_alike := b9, g_alike := PySem.W.mg_of X G a9, a_twig := _, d_twig := _, F_twig := F10, b_twig := b10, g_twig := PySem.W.mg_of X G a10, a_grown := _, d_grown := _, F_grown := F11, b_grown := b11, g_grown := PySem.W.mg_of X G a11, a_piece := _, d_piece := _, F_piece := F12, b_piece := b12, g_piece := PySem.W.mg_of X G a12, a_maybe_tree := _, d_maybe_tree := _, F_maybe_tree := F13, b_maybe_tree := b13, g_maybe_tree := PySem.W.mg_of X G a13, a_checked := _, d_checked := _, F_checked := F14, b_checked := b14, g_checked := PySem.W.mg_of X G a14, C_PagesError := _, g_PagesError := PySem.W.mg_of X G gC_PagesError, cB_PagesError := sub_PagesError, cT_PagesError := cT_PagesError, kC_PagesError := kC_PagesError, is_PagesError := { c := cI_PagesError, ga := ga_PagesError, gt := gt_PagesError, sub := sub_PagesError, kc := kc_PagesError, kg := kgC, kt := ktC, ob := ob_PagesError }, xf_PagesError := ⟨ga_PagesError, gt_PagesError, sub_PagesError, hd_PagesError⟩, xF_PagesError := xF_PagesError, ga_PagesError := sg_PagesError, rd_PagesError := rd_PagesError, vV_PagesError := vV_PagesError, kit_PagesError_PagesError := kit_own cI_PagesError cT_PagesError su_PagesError_PagesError (.inl rfl), te_PagesError_PagesError := exm_own sub_PagesError cI_PagesError cT_PagesError su_PagesError_PagesError, kit_PagesError_BadTree := kit_own cI_BadTree cT_BadTree su_PagesError_BadTree (.inr fun z => by rw [← z, su_PagesError_PagesError] at su_PagesError_BadTree; cases su_PagesError_BadTree), te_PagesError_BadTree := exm_own sub_BadTree cI_BadTree cT_BadTree su_PagesError_BadTree, kit_PagesError_TooMany := kit_own cI_TooMany cT_TooMany su_PagesError_TooMany (.inr fun z => by rw [← z, su_PagesError_PagesError] at su_PagesError_TooMany; cases su_PagesError_TooMany), te_PagesError_TooMany := exm_own sub_TooMany cI_TooMany cT_TooMany su_PagesError_TooMany, C_BadTree := _, g_BadTree := PySem.W.mg_of X G gC_BadTree, cB_BadTree := sub_BadTree, cT_BadTree := cT_BadTree, kC_BadTree := kC_BadTree, is_BadTree := { c := cI_BadTree, ga := ga_BadTree, gt := gt_BadTree, sub := sub_BadTree, kc := kc_BadTree, kg := kgC, kt := ktC, ob := ob_BadTree }, xf_BadTree := ⟨ga_BadTree, gt_BadTree, sub_BadTree, hd_BadTree⟩, kit_BadTree_PagesError := kit_own cI_PagesError cT_PagesError su_BadTree_PagesError (.inl rfl), te_BadTree_PagesError := exm_own sub_PagesError cI_PagesError cT_PagesError su_BadTree_PagesError, kit_BadTree_BadTree := kit_own cI_BadTree cT_BadTree su_BadTree_BadTree (.inl rfl), te_BadTree_BadTree := exm_own sub_BadTree cI_BadTree cT_BadTree su_BadTree_BadTree, kit_BadTree_TooMany := kit_own cI_TooMany cT_TooMany su_BadTree_TooMany (.inr fun z => by rw [← z, su_BadTree_BadTree] at su_BadTree_TooMany; cases su_BadTree_TooMany), te_BadTree_TooMany := exm_own sub_TooMany cI_TooMany cT_TooMany su_BadTree_TooMany, C_TooMany := _, g_TooMany := PySem.W.mg_of X G gC_TooMany, cB_TooMany := sub_TooMany, cT_TooMany := cT_TooMany, kC_TooMany := kC_TooMany, is_TooMany := { c := cI_TooMany, ga := ga_TooMany, gt := gt_TooMany, sub := sub_TooMany, kc := kc_TooMany, kg := kgC, kt := ktC, ob := ob_TooMany }, xf_TooMany := ⟨ga_TooMany, gt_TooMany, sub_TooMany, hd_TooMany⟩, kit_TooMany_PagesError := kit_own cI_PagesError cT_PagesError su_TooMany_PagesError (.inl rfl), te_TooMany_PagesError := exm_own sub_PagesError cI_PagesError cT_PagesError su_TooMany_PagesError, kit_TooMany_BadTree := kit_own cI_BadTree cT_BadTree su_TooMany_BadTree (.inr fun z => by rw [← z, su_TooMany_TooMany] at su_TooMany_BadTree; cases su_TooMany_BadTree), te_TooMany_BadTree := exm_own sub_BadTree cI_BadTree cT_BadTree su_TooMany_BadTree, kit_TooMany_TooMany := kit_own cI_TooMany cT_TooMany su_TooMany_TooMany (.inl rfl), te_TooMany_TooMany := exm_own sub_TooMany cI_TooMany cT_TooMany su_TooMany_TooMany, t_MOST := _, g_MOST := PySem.W.mg_of X G g_MOST, t_MOST_NODES := _, g_MOST_NODES := PySem.W.mg_of X G g_MOST_NODES, c_WORDS := _, g_WORDS := PySem.W.mg_of X G g_WORDS, l_WORDS := fun H => .inr ⟨_, _, _, l_WORDS, rfl, rfl, by rw [sizeLine_eq]; show 3 ≤ 16777216; decide, (.cons ⟨_, rfl⟩ (.cons ⟨_, rfl⟩ (.cons ⟨_, rfl⟩ .nil)))⟩, z_abs := PySem.W.mg_none_of X G z_abs, z_bool := PySem.W.mg_none_of X G z_bool, z_int := PySem.W.mg_none_of X G z_int, z_isinstance := PySem.W.mg_none_of X G z_isinstance, z_len := PySem.W.mg_none_of X G z_len, z_list := PySem.W.mg_none_of X G z_list, z_max := PySem.W.mg_none_of X G z_max, z_range := PySem.W.mg_none_of X G z_range, z_str := PySem.W.mg_none_of X G z_str, z_tuple := PySem.W.mg_none_of X G z_tuple }
  exact ⟨PySem.W.fnOf "law" "law" (defArgs s_law) (defBody s_law) (defScope s_law) .none kV15 dc15 pm15 an15 cd15 ct15, fun s v => .of_eq rfl, fun base _ _ => ok_law F15 T⟩
end Y
open PySem PySem.W PyProof.Rows
set_option maxHeartbeats 0 in
theorem PySem.Challenge.cw_wholepages_k51_trees_and_plans_checked_holds : PySem.Challenge.rw_wholepages_k51_trees_and_plans_checked.Holds := by
  w_on; o_law; k_head; (case hw => w_witness2)
  k_fill
  refine L2.walk_of (l := PySem.Challenge.rw_wholepages_k51_trees_and_plans_checked) (n := 63) (k := 7) (x := "_law_script") (CX := fun _ => L2.CX0) (sp := fun w => Y.spLaw _) rfl (by decide) rfl ⟨rfl, by decide, by decide⟩ (fun w h Y => PySem.W.kIn_of Y) ?F (fun _ _ a ns hl _ hS => ⟨a, ns, rfl, hS, hl, fun _ => rfl⟩) (fun _ _ _ _ _ h => h)
  case F =>
    intro w mg fa h KX G hmg
    refine' Y.all_mk KX G hmg ?gC_PagesError ?gC_BadTree ?gC_TooMany ?kgC ?ktC ?ga_PagesError ?gt_PagesError ?sub_PagesError ?kc_PagesError ?ob_PagesError ?cI_PagesError ?cT_PagesError ?hd_PagesError ?kC_PagesError ?xF_PagesError ?sg_PagesError ?rd_PagesError ?vV_PagesError ?su_PagesError_PagesError ?su_PagesError_BadTree ?su_PagesError_TooMany ?ga_BadTree ?gt_BadTree ?sub_BadTree ?kc_BadTree ?ob_BadTree ?cI_BadTree ?cT_BadTree ?hd_BadTree ?kC_BadTree ?xL_BadTree ?sa_BadTree ?no_BadTree ?su_BadTree_PagesError ?su_BadTree_BadTree ?su_BadTree_TooMany ?ga_TooMany ?gt_TooMany ?sub_TooMany ?kc_TooMany ?ob_TooMany ?cI_TooMany ?cT_TooMany ?hd_TooMany ?kC_TooMany ?xL_TooMany ?sa_TooMany ?no_TooMany ?su_TooMany_PagesError ?su_TooMany_BadTree ?su_TooMany_TooMany ?a0 ?t0 ?l0 ?c0 ?k0 ?a1 ?t1 ?l1 ?c1 ?k1 ?a2 ?l2 ?c2 ?k2 ?a3 ?l3 ?c3 ?k3 ?a4 ?l4 ?c4 ?k4 ?a5 ?l5 ?c5 ?k5 ?a6 ?l6 ?c6 ?k6 ?a7 ?l7 ?c7 ?k7 ?a8 ?l8 ?c8 ?k8 ?a9 ?l9 ?c9 ?k9 ?a10 ?l10 ?c10 ?k10 ?a11 ?l11 ?c11 ?k11 ?a12 ?l12 ?c12 ?k12 ?a13 ?l13 ?c13 ?k13 ?a14 ?l14 ?c14 ?k14 ?a15 ?l15 ?c15 ?k15 ?g_MOST ?g_MOST_NODES ?g_WORDS ?l_WORDS ?z_abs ?z_bool ?z_int ?z_isinstance ?z_len ?z_list ?z_max ?z_range ?z_str ?z_tuple
    (case gC_PagesError => k_is); (case gC_BadTree => k_is); (case gC_TooMany => k_is); (case kgC => k_is); (case ktC => k_is); (case ga_PagesError => k_is); (case gt_PagesError => k_is); (case sub_PagesError => k_is); (case kc_PagesError => k_is); (case ob_PagesError => k_is); (case cI_PagesError => k_is); (case cT_PagesError => k_is); (case hd_PagesError => k_is); (case kC_PagesError => k_is); (case xF_PagesError => k_exc); (case sg_PagesError => k_is); (case rd_PagesError => k_is); (case vV_PagesError => k_is); (case su_PagesError_PagesError => k_is); (case su_PagesError_BadTree => k_is); (case su_PagesError_TooMany => k_is); (case ga_BadTree => k_is); (case gt_BadTree => k_is); (case sub_BadTree => k_is); (case kc_BadTree => k_is); (case ob_BadTree => k_is); (case cI_BadTree => k_is); (case cT_BadTree => k_is); (case hd_BadTree => k_is); (case kC_BadTree => k_is); (case xL_BadTree => k_is); (case sa_BadTree => k_is); (case no_BadTree => k_is); (case su_BadTree_PagesError => k_is); (case su_BadTree_BadTree => k_is); (case su_BadTree_TooMany => k_is); (case ga_TooMany => k_is); (case gt_TooMany => k_is); (case sub_TooMany => k_is); (case kc_TooMany => k_is); (case ob_TooMany => k_is); (case cI_TooMany => k_is); (case cT_TooMany => k_is); (case hd_TooMany => k_is); (case kC_TooMany => k_is); (case xL_TooMany => k_is); (case sa_TooMany => k_is); (case no_TooMany => k_is); (case su_TooMany_PagesError => k_is); (case su_TooMany_BadTree => k_is); (case su_TooMany_TooMany => k_is); (case a0 => k_is); (case t0 => k_is); (case l0 => k_is); (case c0 => k_is); (case k0 => k_is); (case a1 => k_is); (case t1 => k_is); (case l1 => k_is); (case c1 => k_is); (case k1 => k_is); (case a2 => k_is); (case l2 => k_is); (case c2 => k_is); (case k2 => k_is); (case a3 => k_is); (case l3 => k_is); (case c3 => k_is); (case k3 => k_is); (case a4 => k_is); (case l4 => k_is); (case c4 => k_is); (case k4 => k_is); (case a5 => k_is); (case l5 => k_is); (case c5 => k_is); (case k5 => k_is); (case a6 => k_is); (case l6 => k_is); (case c6 => k_is); (case k6 => k_is); (case a7 => k_is); (case l7 => k_is); (case c7 => k_is); (case k7 => k_is); (case a8 => k_is); (case l8 => k_is); (case c8 => k_is); (case k8 => k_is); (case a9 => k_is); (case l9 => k_is); (case c9 => k_is); (case k9 => k_is); (case a10 => k_is); (case l10 => k_is); (case c10 => k_is); (case k10 => k_is); (case a11 => k_is); (case l11 => k_is); (case c11 => k_is); (case k11 => k_is); (case a12 => k_is); (case l12 => k_is); (case c12 => k_is); (case k12 => k_is); (case a13 => k_is); (case l13 => k_is); (case c13 => k_is); (case k13 => k_is); (case a14 => k_is); (case l14 => k_is); (case c14 => k_is); (case k14 => k_is); (case a15 => k_is); (case l15 => k_is); (case c15 => k_is); (case k15 => k_is); (case g_MOST => k_is); (case g_MOST_NODES => k_is); (case g_WORDS => k_is); (case l_WORDS => k_is); (case z_abs => k_is); (case z_bool => k_is); (case z_int => k_is); (case z_isinstance => k_is); (case z_len => k_is); (case z_list => k_is); (case z_max => k_is); (case z_range => k_is); (case z_str => k_is); (case z_tuple => k_is)

