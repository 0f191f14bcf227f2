import PyProof.Rows.All
import Wide.All
import OpenK.AllK
import Wide.FinOn
import HandS.ForMost
import HandS.Wide
import HandS.IsInst
import HandS.EndBits
import HandS.Style
import HandS.SortInts
import HandS.Evl
import HandS.TupMul
import HandS.Rev
import HandS.WordsExc
import HandS.ExcOwn
import HandS.Exc
import HandS.ExcInit
import HandS.ExcField
import KE.KExcIs
import HandS.TryMany
import HandS.Conv
import HandS.Zip
import HandS.CallLocal
import HandS.Defaults
import HandS.Strs
import HandS.SetKeys
import HandS.SetBool
import HandS.Slots
import HandS.SlotsOwn
import HandS.Property
import HandS.ClsMeth
import HandS.MakeKwOnly
import HandS.FStr
import PySem.Challenge.RW_wholepages_k32_rows_mark
set_option Elab.async false
set_option linter.all false
set_option maxRecDepth 100000
set_option maxHeartbeats 4000000

/-! ## Common: steps of a reading, heaps, the law's own helpers -/
namespace Y
open PySem PySem.Spec PyProof.Rows L2
/-! ### steps -/
section
variable {K : PySem.W.Frag} {σ : L2.St} {H : Hp} {D : Ends} {ta tb te tc : TE} {t u : TS} {c d : TT} {Q : VK} {R : Bool → Hp → Prop}
theorem c_seq (h : t { D with nx := u D } σ H) : tSeq t u D σ H := h
theorem st_of {t : TS} {σ0 : L2.St} (e : σ0 = σ) (h : t D σ H) : t D σ0 H := by
  rw [e]
  exact h
theorem c_next (h : D.nx σ H) : tNext D σ H := h
theorem c_asg {g : TG} (h : te σ H fun x H1 => g x σ H1 D.nx) : tAsg te g D σ H := h
theorem c_gname {i : Nat} {v : V} {Q : L2.St → Hp → Prop} (h : Q (σ.set i (some v)) H) : gName i v σ H Q := h
theorem c_gsub {to ti : TE} {s : TSet} {v : V} {Q : L2.St → Hp → Prop} (h : to σ H fun o H1 => ti σ H1 fun i H2 => s o i v H2 fun H3 => Q σ H3) : gSub to ti s v σ H Q := h
theorem c_drop (h : te σ H fun _ H1 => D.nx σ H1) : tDrop te D σ H := h
theorem c_ret (h : te σ H D.rt) : tRet te D σ H := h
theorem c_retN (h : D.rt .non H) : tRetN D σ H := h
theorem c_ifs (h : c σ H fun b H1 => if b = true then t D σ H1 else u D σ H1) : tIfS c t u D σ H := h
theorem c_var {i : Nat} {v : V} (e : σ[i]? = some (some v)) (h : Q v H) : tVar i σ H Q := ⟨v, e, h⟩
theorem c_c {v : V} (h : Q v H) : tC v σ H Q := h
theorem c_op {r : R2} (h : ta σ H fun x H1 => tb σ H1 fun y H2 => r x y H2 Q) : tOp r ta tb σ H Q := h
theorem c_un {r : V → Hp → VK → Prop} (h : ta σ H fun x H1 => r x H1 Q) : tUn r ta σ H Q := h
theorem c_test (h : te σ H fun x H1 => ∃ k, x = .bl k ∧ R k H1) : tTest te σ H R := h
theorem c_B (h : te σ H fun x H1 => ∃ k, x = .bl k ∧ R k H1) : tB te σ H R := h
theorem c_bl {k : Bool} (h : R k H) : ∃ k', V.bl k = .bl k' ∧ R k' H := ⟨k, rfl, h⟩
theorem c_and (h : c σ H fun b H1 => if b = true then d σ H1 R else R false H1) : tAnd c d σ H R := h
theorem c_or (h : c σ H fun b H1 => if b = true then R true H1 else d σ H1 R) : tOr c d σ H R := h
theorem c_not (h : c σ H fun b H1 => R (!b) H1) : tNot c σ H R := h
theorem c_andV (h : ta σ H fun x H1 => ∃ b, x = .bl b ∧ if b = true then tb σ H1 Q else Q (.bl false) H1) : tAndV ta tb σ H Q := h
theorem c_orV (h : ta σ H fun x H1 => ∃ b, x = .bl b ∧ if b = true then Q (.bl true) H1 else tb σ H1 Q) : tOrV ta tb σ H Q := h
theorem c_notV (h : ta σ H fun x H1 => ∃ b, x = .bl b ∧ Q (.bl (!b)) H1) : tNotV ta σ H Q := h
theorem c_if (h : c σ H fun b H1 => if b = true then ta σ H1 Q else tb σ H1 Q) : tIf c ta tb σ H Q := h
theorem c_CB {r : List V → Hp → VK → Prop} {t : TA} (h : t σ H fun vs H1 => r vs H1 Q) : tCB r t σ H Q := h
theorem c_nil {Q : List V → Hp → Prop} (h : Q [] H) : tNil σ H Q := h
theorem c_cons {tr : TA} {Q : List V → Hp → Prop} (h : ta σ H fun x H1 => tr σ H1 fun xs H2 => Q (x :: xs) H2) : tCons ta tr σ H Q := h
theorem c_call {sp : Sp} {dvs : List V} {E : XK} {t : TA} (h : t σ H fun vs H1 => sp (vs ++ dvs) H1 Q E) : tCall sp dvs E t σ H Q := h
theorem c_lst {t : TA} (h : t σ H fun xs H1 => xs.length ≤ sizeLine ∧ ∀ p, H1 p = none → Q (.ref p) (upd H1 p (.lst xs))) : tLst t σ H Q := h
theorem c_tup {t : TA} (h : t σ H fun xs H1 => xs.length ≤ sizeLine ∧ ∀ p, H1 p = none → Q (.ref p) (upd H1 p (.tup xs))) : tTup t σ H Q := h
theorem c_BM {T : String} {r : V → List V → Hp → VK → Prop} {to : TE} {t : TA} (h : to σ H fun x H1 => tyV K T x H1 ∧ t σ H1 fun xs H2 => r x xs H2 Q) : tBM K T r to t σ H Q := h
theorem c_BM0 {T : String} {r : V → List V → Hp → VK → Prop} {to : TE} (h : to σ H fun x H1 => tyV K T x H1 ∧ r x [] H1 Q) : tBM0 K T r to σ H Q := h
theorem c_chain {r r' : R2} (h : ta σ H fun x H1 => tb σ H1 fun y H2 => r x y H2 fun z H3 => ∃ k, z = .bl k ∧ if k = true then tc σ H3 fun w H4 => r' y w H4 Q else Q (.bl false) H3) : tChain r r' ta tb tc σ H Q := h
theorem c_for {wi : TI} {g : TG} {D : Ends} {xs : List V} {a : Addr} (hx : SqL K H a xs)
    (h : ∃ W : Nat → Nat → L2.St → Hp → Prop, (∃ m, W 0 m σ H) ∧ ∀ i m σ H, W i m σ H →
      ((Itl K a).stop i H ∧ D.nx σ H) ∨ ((Itl K a).go i H ∧ ∃ N : L2.St → Hp → Prop, (∀ σ' H', N σ' H' → ∃ m', m' < m ∧ W (i + 1) m' σ' H') ∧ ∀ x H', (Itl K a).yld i H x H' → g x σ H' fun σ2 H2 => t { D with nx := N, ct := N, bk := D.nx } σ2 H2)) :
    ∃ a', V.ref a = .ref a' ∧ (∃ xs, SqL K H a' xs) ∧ ∃ W : Nat → Nat → L2.St → Hp → Prop, (∃ m, W 0 m σ H) ∧ ∀ i m σ H, W i m σ H →
      ((Itl K a').stop i H ∧ D.nx σ H) ∨ ((Itl K a').go i H ∧ ∃ N : L2.St → Hp → Prop, (∀ σ' H', N σ' H' → ∃ m', m' < m ∧ W (i + 1) m' σ' H') ∧ ∀ x H', (Itl K a').yld i H x H' → g x σ H' fun σ2 H2 => t { D with nx := N, ct := N, bk := D.nx } σ2 H2) := ⟨a, rfl, ⟨xs, hx⟩, h⟩
/-- for x in xs, by what holds ahead of each turn -/
theorem c_forL {tl : TE} {g : TG} (h : tl σ H fun x H1 => ∃ a xs, x = .ref a ∧ SqL K H1 a xs ∧ ∃ Pv : Nat → L2.St → Hp → Prop, Pv 0 σ H1 ∧ (∀ i σ H, i ≤ xs.length → Pv i σ H → SqL K H a xs) ∧
      (∀ i x σ H, xs[i]? = some x → Pv i σ H → g x σ H fun σ2 H2 => t { D with nx := Pv (i + 1), ct := Pv (i + 1), bk := D.nx } σ2 H2) ∧ (∀ σ H, Pv xs.length σ H → D.nx σ H))
    (mono : ∀ Q Q' : VK, (∀ v H, Q v H → Q' v H) → tl σ H Q → tl σ H Q') : tFor (iList K tl) g t D σ H := by
  refine mono _ _ (fun v H1 h => ?_) h
  obtain ⟨a, xs, rfl, hx, Pv, h0, hl, hs, hd⟩ := h
  exact ⟨a, rfl, ⟨xs, hx⟩, for_list (xs := xs) Pv h0 hl hs hd⟩
theorem c_rng1 {ta : TA} {g : TG} (h : ta σ H fun vs H1 => ∃ j : Int, vs = [.int j] ∧ -(2 ^ 62) ≤ j ∧ j < 2 ^ 62 ∧ ∃ W : Nat → Nat → L2.St → Hp → Prop, (∃ m, W 0 m σ H1) ∧ ∀ i m σ H, W i m σ H →
      ((Itr 0 j.toNat).stop i H ∧ D.nx σ H) ∨ ((Itr 0 j.toNat).go i H ∧ ∃ N : L2.St → Hp → Prop, (∀ σ' H', N σ' H' → ∃ m', m' < m ∧ W (i + 1) m' σ' H') ∧ ∀ x H', (Itr 0 j.toNat).yld i H x H' → g x σ H' fun σ2 H2 => t { D with nx := N, ct := N, bk := D.nx } σ2 H2)) :
    tFor (iRng1 ta) g t D σ H := h
theorem c_forList {tl : TE} {g : TG} (h : tl σ H fun x H1 => ∃ a, x = .ref a ∧ (∃ xs, SqL K H1 a xs) ∧ ∃ W : Nat → Nat → L2.St → Hp → Prop, (∃ m, W 0 m σ H1) ∧ ∀ i m σ H, W i m σ H →
      ((Itl K a).stop i H ∧ D.nx σ H) ∨ ((Itl K a).go i H ∧ ∃ N : L2.St → Hp → Prop, (∀ σ' H', N σ' H' → ∃ m', m' < m ∧ W (i + 1) m' σ' H') ∧ ∀ x H', (Itl K a).yld i H x H' → g x σ H' fun σ2 H2 => t { D with nx := N, ct := N, bk := D.nx } σ2 H2)) :
    tFor (iList K tl) g t D σ H := h
theorem c_forTup {tl : TE} {g : TG} (h : tl σ H fun x H1 => ∃ a, x = .ref a ∧ (∃ xs, SqT K H1 a xs) ∧ ∃ W : Nat → Nat → L2.St → Hp → Prop, (∃ m, W 0 m σ H1) ∧ ∀ i m σ H, W i m σ H →
      ((Itt K a).stop i H ∧ D.nx σ H) ∨ ((Itt K a).go i H ∧ ∃ N : L2.St → Hp → Prop, (∀ σ' H', N σ' H' → ∃ m', m' < m ∧ W (i + 1) m' σ' H') ∧ ∀ x H', (Itt K a).yld i H x H' → g x σ H' fun σ2 H2 => t { D with nx := N, ct := N, bk := D.nx } σ2 H2)) :
    tFor (iTup K tl) g t D σ H := h
/-! operators by values -/
theorem r_I0 {g : Int → Int → V} {i j : Int} (h : Q (g i j) H) : rI0 g (.int i) (.int j) H Q := ⟨i, j, rfl, rfl, h⟩
theorem r_I {C : Int → Int → Prop} {g : Int → Int → V} {i j : Int} (hc : C i j) (h : Q (g i j) H) : rI C g (.int i) (.int j) H Q := ⟨i, j, rfl, rfl, hc, h⟩
theorem r_U {g : Int → V} {i : Int} (h : Q (g i) H) : rU g (.int i) H Q := ⟨i, rfl, h⟩
theorem dec_int {i j : Int} : decide (V.int i = V.int j) = decide (i = j) := by
  by_cases h : i = j
  · rw [decide_eq_true h, h, decide_eq_true rfl]
  · rw [decide_eq_false h, decide_eq_false fun z => h (V.int.inj z)]
theorem dec_bl {i j : Bool} : decide (V.bl i = V.bl j) = decide (i = j) := by cases i <;> cases j <;> rfl
theorem dec_str {i j : Str} : decide (V.str i = V.str j) = decide (i = j) := by
  by_cases h : i = j
  · rw [decide_eq_true h, h, decide_eq_true rfl]
  · rw [decide_eq_false h, decide_eq_false fun z => h (V.str.inj z)]
theorem r_eqI {i j : Int} (h : Q (.bl (decide (i = j))) H) : rEq (.int i) (.int j) H Q := ⟨rfl, by rw [dec_int]; exact h⟩
theorem r_neI {i j : Int} (h : Q (.bl (!decide (i = j))) H) : rNe (.int i) (.int j) H Q := ⟨rfl, by rw [dec_int]; exact h⟩
theorem r_eqB {i j : Bool} (h : Q (.bl (decide (i = j))) H) : rEq (.bl i) (.bl j) H Q := ⟨rfl, by rw [dec_bl]; exact h⟩
theorem r_neB {i j : Bool} (h : Q (.bl (!decide (i = j))) H) : rNe (.bl i) (.bl j) H Q := ⟨rfl, by rw [dec_bl]; exact h⟩
theorem r_eqS {i j : Str} (h : Q (.bl (decide (i = j))) H) : rEq (.str i) (.str j) H Q := ⟨rfl, by rw [dec_str]; exact h⟩
theorem r_neS {i j : Str} (h : Q (.bl (!decide (i = j))) H) : rNe (.str i) (.str j) H Q := ⟨rfl, by rw [dec_str]; exact h⟩
theorem r_isN {x : V} (h : Q (.bl (decide (x = .non))) H) : (fun (x y : V) (H : Hp) (Q : VK) => y = .non ∧ Q (.bl (decide (x = .non))) H) x .non H Q := ⟨rfl, h⟩
theorem r_ixL {p : Addr} {xs : List V} {i : Int} {v : V} (hx : SqL K H p xs) (ha : atI xs i = some v) (h : Q v H) : rIxL K (.ref p) (.int i) H Q := ⟨p, xs, i, v, rfl, rfl, hx, ha, h⟩
theorem r_ixT {p : Addr} {xs : List V} {i : Int} {v : V} (hx : SqT K H p xs) (ha : atI xs i = some v) (h : Q v H) : rIxT K (.ref p) (.int i) H Q := ⟨p, xs, i, v, rfl, rfl, hx, ha, h⟩
theorem r_inL {n : Bool} {p : Addr} {x : V} {xs : List V} (hx : SqL K H p xs) (h1 : flatV x = true) (h2 : xs.all flatV = true) (h : Q (.bl (if n then !inV x xs else inV x xs)) H) : rIn K n x (.ref p) H Q := ⟨p, xs, rfl, .inl hx, h1, h2, h⟩
theorem r_inT {n : Bool} {p : Addr} {x : V} {xs : List V} (hx : SqT K H p xs) (h1 : flatV x = true) (h2 : xs.all flatV = true) (h : Q (.bl (if n then !inV x xs else inV x xs)) H) : rIn K n x (.ref p) H Q := ⟨p, xs, rfl, .inr hx, h1, h2, h⟩
theorem r_lenL {p : Addr} {xs : List V} (hx : SqL K H p xs) (h : Q (.int xs.length) H) : (fun (xs : List V) (H : Hp) (Q : VK) => ∃ p ys, xs = [.ref p] ∧ (SqL K H p ys ∨ SqT K H p ys) ∧ Q (.int ys.length) H) [.ref p] H Q := ⟨p, xs, rfl, .inl hx, h⟩
theorem r_lenT {p : Addr} {xs : List V} (hx : SqT K H p xs) (h : Q (.int xs.length) H) : (fun (xs : List V) (H : Hp) (Q : VK) => ∃ p ys, xs = [.ref p] ∧ (SqL K H p ys ∨ SqT K H p ys) ∧ Q (.int ys.length) H) [.ref p] H Q := ⟨p, xs, rfl, .inr hx, h⟩
theorem r_app {p : Addr} {xs : List V} {y : V} (hx : H p = some (.lst xs)) (hl : xs.length < sizeLine) (h : Q .non (upd H p (.lst (xs ++ [y])))) : rAppend (.ref p) [y] H Q := ⟨p, xs, y, rfl, rfl, hx, hl, h⟩
theorem r_pop {p : Addr} {xs : List V} {y : V} (hx : H p = some (.lst (xs ++ [y]))) (h : Q y (upd H p (.lst xs))) : rPop (.ref p) [] H Q :=
  ⟨p, xs ++ [y], y, rfl, rfl, hx, by simp, by rw [List.dropLast_concat]; exact h⟩
theorem r_setL {p : Addr} {xs : List V} {i : Int} {j : Nat} {v : V} {Q : Hp → Prop} (hx : H p = some (.lst xs)) (hj : ixN xs.length i = some j) (h : Q (upd H p (.lst (xs.set j v)))) : rSetL (.ref p) (.int i) v H Q := ⟨p, xs, i, j, rfl, rfl, hx, hj, h⟩
theorem r_pow18 {H : Hp} {Q : VK} (h : Q (.int 1000000000000000000) H) : rI CPow (fun i j => .int (i ^ j.toNat)) (.int 10) (.int 18) H Q := r_I ⟨by decide, by decide, by decide⟩ h
theorem r_pow17 {H : Hp} {Q : VK} (h : Q (.int 100000000000000000) H) : rI CPow (fun i j => .int (i ^ j.toNat)) (.int 10) (.int 17) H Q := r_I ⟨by decide, by decide, by decide⟩ h
theorem ixn {n j : Nat} (h : j < n) : ixN n (j : Int) = some j := by
  unfold ixN
  rw [if_pos (by omega), if_pos (by omega)]
  rfl
theorem map_at {ns : List Int} {i : Nat} (h : i < ns.length) : (ns.map V.int)[i]? = some (.int ns[i]) := by
  rw [List.getElem?_map, List.getElem?_eq_getElem h]
  rfl
theorem r_tyL {p : Addr} {xs : List V} (hx : SqL K H p xs) {B : Prop} (h : B) : tyV K "list" (.ref p) H ∧ B := ⟨.inl ⟨rfl, _, hx⟩, h⟩
end
/-! ### tests -/
theorem i_T {b : Bool} {A B : Prop} (hb : b = true) (h : A) : if b = true then A else B := by
  rw [if_pos hb]
  exact h
theorem i_F {b : Bool} {A B : Prop} (hb : b = false) (h : B) : if b = true then A else B := by
  rw [hb, if_neg Bool.false_ne_true]
  exact h
theorem i_2 {b : Bool} {A B : Prop} (h1 : b = true → A) (h2 : b = false → B) : if b = true then A else B := by
  cases b with
  | true => exact i_T rfl (h1 rfl)
  | false => exact i_F rfl (h2 rfl)
theorem i_d {p : Prop} [Decidable p] {A B : Prop} (h1 : p → A) (h2 : ¬ p → B) : if decide p = true then A else B := by
  by_cases h : p
  · exact i_T (decide_eq_true h) (h1 h)
  · exact i_F (decide_eq_false h) (h2 h)
theorem i_n {p : Prop} [Decidable p] {A B : Prop} (h1 : ¬ p → A) (h2 : p → B) : if (!decide p) = true then A else B := by
  by_cases h : p
  · exact i_F (by rw [decide_eq_true h]; rfl) (h2 h)
  · exact i_T (by rw [decide_eq_false h]; rfl) (h1 h)
theorem small {n : Nat} (h : n ≤ 100000) : n ≤ sizeLine := Nat.le_trans h (by decide)
theorem smallLt {n : Nat} (h : n < 100000) : n < sizeLine := Nat.lt_of_lt_of_le h (by decide)
/-! ### heaps: what stays but at S -/
def Ex (S : Addr) (H H' : Hp) : Prop := ∀ a o, a ≠ S → H a = some o → H' a = some o
theorem Ex.refl (S : Addr) (H : Hp) : Ex S H H := fun _ _ _ h => h
theorem Ex.trans {S : Addr} {H H1 H2 : Hp} (a : Ex S H H1) (b : Ex S H1 H2) : Ex S H H2 := fun x o n h => b x o n (a x o n h)
theorem Ex.new {S : Addr} {H H1 : Hp} {p : Addr} {o : HO} (e : Ex S H H1) (h : H1 p = none) : Ex S H (upd H1 p o) := fun a u n ha => by
  rw [upd_ne (ne_of_none (e a u n ha) h)]
  exact e a u n ha
theorem Ex.mut {S : Addr} {H H1 : Hp} {p : Addr} {o : HO} (e : Ex S H H1) (h : H p = none) : Ex S H (upd H1 p o) := fun a u n ha => by
  rw [upd_ne (ne_of_none ha h)]
  exact e a u n ha
theorem Ex.at {S : Addr} {H H1 : Hp} {o : HO} (e : Ex S H H1) : Ex S H (upd H1 S o) := fun a u n ha => by
  rw [upd_ne n]
  exact e a u n ha
theorem Ex.same {S : Addr} {H H1 H2 : Hp} (e : Ex S H H1) (s : Same H1 H2) : Ex S H H2 := fun a u n ha => s a u (e a u n ha)
theorem same_new {H H1 : Hp} {p : Addr} {o : HO} (e : Same H H1) (h : H1 p = none) : Same H (upd H1 p o) := fun a u ha => by
  rw [upd_ne (ne_of_none (e a u ha) h)]
  exact e a u ha
theorem same_mut {H H1 : Hp} {p : Addr} {o : HO} (e : Same H H1) (h : H p = none) : Same H (upd H1 p o) := fun a u ha => by
  rw [upd_ne (ne_of_none ha h)]
  exact e a u ha
theorem same_tup {K : PySem.W.Frag} {H H' : Hp} {a : Addr} {xs : List V} (e : Same H H') (h : SqT K H a xs) : SqT K H' a xs := by
  rcases h with (h | ⟨o, h⟩) | h
  · exact .inl (.inl (e _ _ h))
  · exact .inl (.inr ⟨o, e _ _ h⟩)
  · exact .inr h
theorem Ex.seq {K : PySem.W.Frag} {S : Addr} {H H' : Hp} {a : Addr} {xs : List V} (e : Ex S H H') (n : a ≠ S) (h : SqL K H a xs) : SqL K H' a xs := by
  rcases h with (h | ⟨o, h⟩) | h
  · exact .inl (.inl (e _ _ n h))
  · exact .inl (.inr ⟨o, e _ _ n h⟩)
  · exact .inr h
theorem Ex.tup {K : PySem.W.Frag} {S : Addr} {H H' : Hp} {a : Addr} {xs : List V} (e : Ex S H H') (n : a ≠ S) (h : SqT K H a xs) : SqT K H' a xs := by
  rcases h with (h | ⟨o, h⟩) | h
  · exact .inl (.inl (e _ _ n h))
  · exact .inl (.inr ⟨o, e _ _ n h⟩)
  · exact .inr h
theorem sql {K : PySem.W.Frag} {H : Hp} {a : Addr} {xs : List V} (h : H a = some (.lst xs)) : SqL K H a xs := .inl (.inl h)
theorem sqt {K : PySem.W.Frag} {H : Hp} {a : Addr} {xs : List V} (h : H a = some (.tup xs)) : SqT K H a xs := .inl (.inl h)

theorem seq' {K : PySem.W.Frag} {H H' : Hp} {a : Addr} {xs : List V} (h : SqL K H a xs) (e : Same H H') : SqL K H' a xs := e.seq h
theorem tup' {K : PySem.W.Frag} {H H' : Hp} {a : Addr} {xs : List V} (h : SqT K H a xs) (e : Same H H') : SqT K H' a xs := same_tup e h
theorem same_at {H H' : Hp} {a : Addr} {o : HO} (e : Same H H') (h : H a = some o) : H' a = some o := e _ _ h
theorem ex_at {S : Addr} {H H' : Hp} {a : Addr} {o : HO} (e : Ex S H H') (n : a ≠ S) (h : H a = some o) : H' a = some o := e _ _ n h
theorem ne_nn {H : Hp} {a b : Addr} {o : HO} (h' : H b = none) (h : H a = some o) : a ≠ b := ne_of_none h h'
theorem ne_nn' {H : Hp} {a b : Addr} {o : HO} (h' : H b = none) (h : H a = some o) : b ≠ a := (ne_of_none h h').symm
section
variable {K : PySem.W.Frag} {σ : L2.St} {H : Hp} {tb te : TE} {c : TT} {Q : VK} {g : TG} {vs : List Nat}
theorem c_lcT (h : te σ H fun x H1 => ∃ a, x = .ref a ∧ (∃ xs, SqT K H1 a xs) ∧ ∀ D, H1 D = none → ∃ W : Nat → Nat → Hp → Prop, (∃ m, W 0 m (upd H1 D (.lst []))) ∧ ∀ i m G, W i m G →
      ((Itt K a).stop i G ∧ Q (.ref D) G) ∨ ((Itt K a).go i G ∧ ∃ Nx : Hp → Prop, (∀ G', Nx G' → ∃ m', m' < m ∧ W (i + 1) m' G') ∧ ∀ x G', (Itt K a).yld i G x G' → g x (wipe σ vs) G' fun σ2 H2 => wipe σ2 vs = wipe σ vs ∧ c σ2 H2 fun b H3 =>
        if b = true then tb σ2 H3 fun y H4 => ∃ acc, H4 D = some (.lst acc) ∧ acc.length < sizeLine ∧ Nx (upd H4 D (.lst (acc ++ [y]))) else Nx H3)) : tLc (iTup K te) g c tb vs σ H Q := h
theorem c_lcL (h : te σ H fun x H1 => ∃ a, x = .ref a ∧ (∃ xs, SqL K H1 a xs) ∧ ∀ D, H1 D = none → ∃ W : Nat → Nat → Hp → Prop, (∃ m, W 0 m (upd H1 D (.lst []))) ∧ ∀ i m G, W i m G →
      ((Itl K a).stop i G ∧ Q (.ref D) G) ∨ ((Itl K a).go i G ∧ ∃ Nx : Hp → Prop, (∀ G', Nx G' → ∃ m', m' < m ∧ W (i + 1) m' G') ∧ ∀ x G', (Itl K a).yld i G x G' → g x (wipe σ vs) G' fun σ2 H2 => wipe σ2 vs = wipe σ vs ∧ c σ2 H2 fun b H3 =>
        if b = true then tb σ2 H3 fun y H4 => ∃ acc, H4 D = some (.lst acc) ∧ acc.length < sizeLine ∧ Nx (upd H4 D (.lst (acc ++ [y]))) else Nx H3)) : tLc (iList K te) g c tb vs σ H Q := h
theorem c_lcR {ta : TA} (h : ta σ H fun us H1 => ∃ j : Int, us = [.int j] ∧ -(2 ^ 62) ≤ j ∧ j < 2 ^ 62 ∧ ∀ D, H1 D = none → ∃ W : Nat → Nat → Hp → Prop, (∃ m, W 0 m (upd H1 D (.lst []))) ∧ ∀ i m G, W i m G →
      ((Itr 0 j.toNat).stop i G ∧ Q (.ref D) G) ∨ ((Itr 0 j.toNat).go i G ∧ ∃ Nx : Hp → Prop, (∀ G', Nx G' → ∃ m', m' < m ∧ W (i + 1) m' G') ∧ ∀ x G', (Itr 0 j.toNat).yld i G x G' → g x (wipe σ vs) G' fun σ2 H2 => wipe σ2 vs = wipe σ vs ∧ c σ2 H2 fun b H3 =>
        if b = true then tb σ2 H3 fun y H4 => ∃ acc, H4 D = some (.lst acc) ∧ acc.length < sizeLine ∧ Nx (upd H4 D (.lst (acc ++ [y]))) else Nx H3)) : tLc (iRng1 ta) g c tb vs σ H Q := h
theorem c_yes {R : Bool → Hp → Prop} (h : R true H) : tYes σ H R := h
theorem in_bl (b : Bool) : ∀ bs : List Bool, inV (.bl b) (bs.map V.bl) = bs.contains b
  | [] => rfl
  | x :: r => by
    have ih := in_bl b r
    unfold inV at ih ⊢
    rw [List.map_cons, List.any_cons, ih, List.contains_cons]
    congr 1
    cases b <;> cases x <;> rfl
theorem flat_bl : ∀ bs : List Bool, (bs.map V.bl).all flatV = true
  | [] => rfl
  | x :: r => by
    rw [List.map_cons, List.all_cons, flat_bl r]
    rfl
end
/-! x is True, x is False where x may be None -/
def rIsW : R2 := fun x y H Q => ∃ b : Bool, y = .bl b ∧ (x = .non ∨ ∃ a, x = .bl a) ∧ Q (.bl (decide (x = .bl b))) H
def rNotW : R2 := fun x y H Q => ∃ b : Bool, y = .bl b ∧ (x = .non ∨ ∃ a, x = .bl a) ∧ Q (.bl (!decide (x = .bl b))) H
theorem op_isW {X : Cx} : OpR X (compareOp .Is) rIsW := by
  intro pins s σ H x y v u Q I rx ry h
  obtain ⟨b, rfl, hx, q⟩ := h
  cases (show u = Value.bool b from ry)
  rcases hx with rfl | ⟨a, rfl⟩
  · cases (show v = Value.none from rx)
    exact wpAny_is_other rfl (fun z => nomatch z) ⟨.bl false, H, I, rfl, by simpa using q⟩
  · cases (show v = Value.bool a from rx)
    by_cases e : a = b
    · subst e
      exact wpAny_is_self rfl ⟨.bl true, H, I, rfl, by simpa using q⟩
    · exact wpAny_is_other rfl (fun z => e (Value.bool.inj z)) ⟨.bl false, H, I, rfl, by simpa [e] using q⟩
theorem op_notW {X : Cx} : OpR X (compareOp .IsNot) rNotW := by
  intro pins s σ H x y v u Q I rx ry h
  obtain ⟨b, rfl, hx, q⟩ := h
  cases (show u = Value.bool b from ry)
  rcases hx with rfl | ⟨a, rfl⟩
  · cases (show v = Value.none from rx)
    exact wpAny_isNot_other rfl (fun z => nomatch z) ⟨.bl true, H, I, rfl, by simpa using q⟩
  · cases (show v = Value.bool a from rx)
    by_cases e : a = b
    · subst e
      exact wpAny_isNot_self rfl ⟨.bl false, H, I, rfl, by simpa using q⟩
    · exact wpAny_isNot_other rfl (fun z => e (Value.bool.inj z)) ⟨.bl true, H, I, rfl, by simpa [e] using q⟩
theorem r_isW {x : V} {b : Bool} {H : Hp} {Q : VK} (hx : x = .non ∨ ∃ a, x = .bl a) (q : Q (.bl (decide (x = .bl b))) H) : rIsW x (.bl b) H Q := ⟨b, rfl, hx, q⟩
theorem r_notW {x : V} {b : Bool} {H : Hp} {Q : VK} (hx : x = .non ∨ ∃ a, x = .bl a) (q : Q (.bl (!decide (x = .bl b))) H) : rNotW x (.bl b) H Q := ⟨b, rfl, hx, q⟩

/-! ### more steps: slices, truths that may be None, what is no list stays -/
section
variable {K : PySem.W.Frag} {σ : L2.St} {H : Hp} {ta te : TE} {Q : VK}
theorem c_sl {r : V → Option Int → Option Int → Hp → VK → Prop} {tl th : TO} (h : te σ H fun x H1 => tl σ H1 fun l H2 => th σ H2 fun u H3 => r x l u H3 Q) : tSl r te tl th σ H Q := h
theorem c_noPart {Q : Option Int → Hp → Prop} (h : Q none H) : tNoPart σ H Q := h
theorem c_part {Q : Option Int → Hp → Prop} (h : te σ H fun x H1 => ∃ i, x = .int i ∧ Q (some i) H1) : tPart te σ H Q := h
theorem r_slL {p : Addr} {xs : List V} {lo hi : Option Int} (hx : SqL K H p xs) (h : ∀ q, H q = none → Q (.ref q) (upd H q (.lst (cutV xs lo hi)))) : rSlL K (.ref p) lo hi H Q := ⟨p, xs, rfl, hx, h⟩
theorem r_slT {p : Addr} {xs : List V} {lo hi : Option Int} (hx : SqT K H p xs) (hn : ¬ (HT.sIx xs.length 0 lo = 0 ∧ HT.sIx xs.length xs.length hi = xs.length)) (h : ∀ q, H q = none → Q (.ref q) (upd H q (.tup (cutV xs lo hi)))) : rSlT K (.ref p) lo hi H Q := ⟨p, xs, rfl, hx, hn, h⟩
theorem r_cat {p q : Addr} {xs ys : List V} (hx : H p = some (.lst xs)) (hy : H q = some (.lst ys)) (hl : xs.length + ys.length ≤ sizeLine) (h : ∀ r, H r = none → Q (.ref r) (upd H r (.lst (xs ++ ys)))) : rCat (.ref p) (.ref q) H Q := ⟨p, q, xs, ys, rfl, rfl, hx, hy, hl, h⟩
theorem r_catT {p q : Addr} {xs ys : List V} (hx : SqT K H p xs) (hy : SqT K H q ys) (hn : xs ≠ []) (hl : xs.length + ys.length ≤ sizeLine) (h1 : ys = [] → Q (.ref p) H) (h2 : ys ≠ [] → ∀ r, H r = none → Q (.ref r) (upd H r (.tup (xs ++ ys)))) : rCatT K (.ref p) (.ref q) H Q := ⟨p, q, xs, ys, rfl, rfl, hx, hy, hn, hl, h1, h2⟩
end
/-- a truth: None, or a bool -/
def tb : Option Bool → V
  | none => .non
  | some b => .bl b
theorem in_tb (x : Option Bool) : ∀ bs : List (Option Bool), inV (tb x) (bs.map tb) = bs.contains x
  | [] => rfl
  | y :: r => by
    have ih := in_tb x r
    unfold inV at ih ⊢
    rw [List.map_cons, List.any_cons, ih, List.contains_cons]
    congr 1
    rcases x with _ | x <;> rcases y with _ | y <;> first | rfl | (cases x <;> rfl) | (cases y <;> rfl) | (cases x <;> cases y <;> rfl)
theorem flat_tb : ∀ bs : List (Option Bool), (bs.map tb).all flatV = true
  | [] => rfl
  | x :: r => by
    rw [List.map_cons, List.all_cons, flat_tb r]
    cases x <;> rfl
theorem tb_or (x : Option Bool) : tb x = .non ∨ ∃ a, tb x = .bl a := by
  cases x with
  | none => exact .inl rfl
  | some b => exact .inr ⟨b, rfl⟩
theorem tb_true (x : Option Bool) : decide (tb x = .bl true) = decide (x = some true) := by
  rcases x with _ | x
  · simp [tb]
  · cases x <;> simp [tb]
/-- what is no list stays -/
def Tp (H H' : Hp) : Prop := ∀ a o, H a = some o → (∀ ys, o ≠ .lst ys) → H' a = some o
theorem Tp.refl (H : Hp) : Tp H H := fun _ _ h _ => h
theorem Tp.trans {H H1 H2 : Hp} (a : Tp H H1) (b : Tp H1 H2) : Tp H H2 := fun x o h n => b x o (a x o h n) n
theorem Tp.same {H H1 : Hp} (s : Same H H1) : Tp H H1 := fun x o h _ => s x o h
theorem Tp.ex {S : Addr} {H H1 : Hp} {xs : List V} (e : Ex S H H1) (h : H S = some (.lst xs)) : Tp H H1 := fun x o hx n => e x o (fun z => by
  subst z
  rw [h] at hx
  exact n _ (Option.some.inj hx).symm) hx
theorem Tp.lst {H H1 : Hp} {p : Addr} {xs : List V} {o : HO} (e : Tp H H1) (h : H1 p = some (.lst xs)) : Tp H (upd H1 p o) := fun x u hx n => by
  have h2 := e x u hx n
  by_cases z : x = p
  · subst z
    rw [h] at h2
    exact absurd (Option.some.inj h2).symm (n _)
  · rw [upd_ne z]
    exact h2
theorem Tp.new {H H1 : Hp} {p : Addr} {o : HO} (e : Tp H H1) (h : H1 p = none) : Tp H (upd H1 p o) := fun x u hx n => by
  have h2 := e x u hx n
  rw [upd_ne (ne_of_none h2 h)]
  exact h2
theorem Tp.tup {K : PySem.W.Frag} {H H' : Hp} {a : Addr} {xs : List V} (e : Tp H H') (h : SqT K H a xs) : SqT K H' a xs := by
  rcases h with (h | ⟨o, h⟩) | h
  · exact .inl (.inl (e _ _ h (fun _ z => nomatch z)))
  · exact .inl (.inr ⟨o, e _ _ h (fun _ z => nomatch z)⟩)
  · exact .inr h
theorem Ex.free {S : Addr} {H H' : Hp} {q : Addr} (e : Ex S H H') (n : q ≠ S) (h : H' q = none) : H q = none := by
  cases z : H q with
  | none => rfl
  | some o =>
    have := e _ _ n z
    rw [h] at this
    cases this
/-! a test's outcome said by itself -/
def tMid (t : TT) : TT := fun σ H R => ∃ M : Bool → Hp → Prop, t σ H M ∧ ∀ b H', M b H' → R b H'
theorem pt_mid {X : Cx} {e : Expr} {t : TT} (h : PT X e t) : PT X e (tMid t) := ⟨fun pins s σ H Q I ⟨M, hm, k⟩ => thn (h.run pins s σ H M I hm) fun b s' ⟨H', I', q⟩ => ⟨H', I', k b H' q⟩⟩
theorem c_mid {t : TT} {σ : L2.St} {H : Hp} {R : Bool → Hp → Prop} (p : Prop) [Decidable p] (h : t σ H fun b H' => H' = H ∧ b = decide p) (h1 : p → R true H) (h2 : ¬ p → R false H) : tMid t σ H R :=
  ⟨_, h, fun b H' ⟨e1, e2⟩ => by
    subst e1 e2
    by_cases z : p
    · rw [decide_eq_true z]
      exact h1 z
    · rw [decide_eq_false z]
      exact h2 z⟩
theorem cut_to {xs ys : List V} {r : Int} (h : r = (xs.length : Int)) : cutV (xs ++ ys) none (some r) = xs := by
  subst h
  unfold cutV
  rw [HT.sIx_none, HT.sIx_nat, List.length_append, List.drop_zero, Nat.min_eq_left (by omega), Nat.sub_zero, List.take_left']
  rfl
theorem cut_from {xs ys : List V} {r : Int} (h : r = (xs.length : Int)) : cutV (xs ++ ys) (some r) none = ys := by
  subst h
  unfold cutV
  rw [HT.sIx_none, HT.sIx_nat, List.length_append, Nat.min_eq_left (by omega), List.drop_left', List.take_of_length_le (by omega)]
  rfl
theorem new_at {H H' : Hp} {p : Addr} {o : HO} (h : H p = none) (s : Same (upd H p o) H') : H' p = some o := s _ _ upd_same
theorem old_at {H H' : Hp} {p : Addr} {o : HO} (h : H p = some o) (s : Same H H') : H' p = some o := s _ _ h

/-! ### the inner walk of a comprehension's second for -/
section
variable {X : Cx} {s : Shared} {H : Hp} {scope : Scope} {e : Env} {fp : List Addr} {tg l : Expr} {tl : TE}
theorem pi_listB (h : PE (X.blk s H scope e fp) l tl) : PI (X.blk s H scope e fp) tg l (iList X.K tl) := pi_list h
theorem pi_tupB (h : PE (X.blk s H scope e fp) l tl) : PI (X.blk s H scope e fp) tg l (iTup X.K tl) := pi_tup h
end
section
variable {X : Cx} {s : Shared} {H : Hp} {scope : Scope} {e : Env} {fp : List Addr}
theorem ix_tupB : IxR (X.blk s H scope e fp) (rIxT X.K) := ix_tup
theorem ix_listB : IxR (X.blk s H scope e fp) (rIxL X.K) := ix_list
theorem pg_tupB {es : List Expr} {k : Nat} {t : TGs} {n : Nat} {pos : Pos} (hc : X.calm = true) (h : PGs (X.blk s H scope e fp) es t)
    (hn : (assignEach es (X.blk s H scope e fp).env).length = n := by rfl) (hst : (assignEach es (X.blk s H scope e fp).env).findIdx? (·.1) = none := by rfl) : PG (X.blk s H scope e fp) (.Tuple es k pos) (gTup X.K n t) := pg_tup hc h hn hst
end

/-! ### tuples unpacked, defs in local names, what stays where S may change -/
section
variable {K : PySem.W.Frag} {σ : L2.St} {H : Hp}
theorem c_gtup {n : Nat} {u : TGs} {a : Addr} {xs : List V} {Q : L2.St → Hp → Prop} (hx : SqT K H a xs) (hn : xs.length = n) (h : u xs σ H Q) : gTup K n u (.ref a) σ H Q := ⟨a, xs, rfl, hx, hn, h⟩
theorem c_gcons {t : TG} {u : TGs} {v : V} {r : List V} {Q : L2.St → Hp → Prop} (h : t v σ H fun σ' H' => u r σ' H' Q) : gCons t u (v :: r) σ H Q := ⟨v, r, rfl, h⟩
theorem c_gnil {Q : L2.St → Hp → Prop} (h : Q σ H) : gNil [] σ H Q := ⟨rfl, h⟩
end
def Aw (S : Addr) (H : Hp) : Hp := fun a => if a = S then none else H a
section
variable {S : Addr} {H H' : Hp}
theorem Aw.of {a : Addr} {o : HO} (h : H a = some o) (n : a ≠ S) : Aw S H a = some o := by
  unfold Aw
  rw [if_neg n]
  exact h
theorem Aw.to : Same (Aw S H) H := fun a o h => by
  unfold Aw at h
  by_cases e : a = S
  · rw [if_pos e] at h
    cases h
  · rw [if_neg e] at h
    exact h
theorem Aw.ne {a : Addr} {o : HO} (h : Aw S H a = some o) : a ≠ S := fun e => by
  unfold Aw at h
  rw [if_pos e] at h
  cases h
theorem Aw.ex (e : Ex S H H') : Same (Aw S H) (Aw S H') := fun a o h => Aw.of (e a o (Aw.ne h) (Aw.to _ _ h)) (Aw.ne h)
theorem Aw.same (e : Same H H') : Same (Aw S H) (Aw S H') := fun a o h => Aw.of (e a o (Aw.to _ _ h)) (Aw.ne h)
theorem Aw.up (e : Same H H') (n : H S = none) : Same H (Aw S H') := fun a o h => Aw.of (e a o h) (ne_of_none h n)
end
theorem c_callL {σ : L2.St} {H : Hp} {i : Nat} {f : Addr} {sp : Sp} {dvs : List V} {E : XK} {t : TA} {Q : VK} (hs : σ[i]? = some (some (.ref f))) (h : t σ H fun vs H1 => sp (vs ++ dvs) H1 Q E) : tCallL i f sp dvs E t σ H Q := ⟨hs, h⟩
theorem Aw.at {S p : Addr} {H : Hp} {o : HO} : Same (Aw p (Aw S H)) (Aw p (Aw S (upd H p o))) := fun a x h => by
  have n := Aw.ne h
  refine Aw.of (Aw.of ?_ (Aw.ne (Aw.to _ _ h))) n
  rw [upd_ne n]
  exact Aw.to _ _ (Aw.to _ _ h)
theorem c_lstRg {σ : L2.St} {H : Hp} {Q : VK} {te : L2.St → Hp → (Int → Int → Hp → Prop) → Prop} (h : te σ H fun a b H1 => RgOk a b ∧ ∀ q, H1 q = none → Q (.ref q) (upd H1 q (.lst (rgV a b)))) : tLstRg te σ H Q := h
theorem c_rg1 {σ : L2.St} {H : Hp} {ta : TE} {Q : Int → Int → Hp → Prop} (h : ta σ H fun x H1 => ∃ n, x = .int n ∧ Q 0 n H1) : tRg1 ta σ H Q := h
theorem seq_ix {d : Int} {n : Nat} (h0 : 0 ≤ d) (h1 : d < n) : seqIndex? d n = some d.toNat := by
  have h2 : ¬ d < 0 := by omega
  simp [seqIndex?, h2, h0, h1]
theorem erase_map {α β : Type} (f : α → β) : ∀ (l : List α) (i : Nat), (l.map f).eraseIdx i = (l.eraseIdx i).map f
  | [], _ => rfl
  | _ :: _, 0 => rfl
  | x :: l, i + 1 => by
    rw [List.map_cons, List.eraseIdx_cons_succ, List.eraseIdx_cons_succ, List.map_cons, erase_map f l i]
theorem Aw.no {S p : Addr} {H : Hp} (h : H p = none) : Aw S H p = none := by
  unfold Aw
  split
  · rfl
  · exact h
theorem Aw.hide {S p : Addr} {H : Hp} {o : HO} (h : H p = none) : Same (Aw S H) (Aw p (Aw S (upd H p o))) := Aw.up (Aw.same (same_new (Same.refl _) h)) (Aw.no h)
theorem c_aug {σ : L2.St} {H : Hp} {i : Nat} {te : TE} {ti : TIp} {D : Ends} {x : V} (hx : σ[i]? = some (some x)) (h : te σ H fun y H1 => ti x y H1 fun z H2 => D.nx (σ.set i (some z)) H2) : tAug i te ti D σ H := ⟨x, hx, h⟩
theorem r_ipI {f : Int → Int → Int} {i j : Int} {H : Hp} {Q : VK} (h : Q (.int (f i j)) H) : ipI f (.int i) (.int j) H Q := ⟨i, j, rfl, rfl, h⟩
theorem Aw.mut {S : Addr} {H : Hp} {o : HO} : Same (Aw S H) (Aw S (upd H S o)) := fun b x hb => by
  refine Aw.of ?_ (Aw.ne hb)
  rw [upd_ne (Aw.ne hb)]
  exact Aw.to _ _ hb
/-- a new object: what stood before stands, and it stands there -/
@[elab_as_elim] theorem alc {p : Addr} {H : Hp} {P : Hp → Prop} (o : HO) (hp : H p = none) (h : ∀ H', Same H H' → H' p = some o → P H') : P (upd H p o) := h _ (same_new (Same.refl _) hp) upd_same
/-! an expression's value said by itself -/
def tMidE (t : TE) : TE := fun σ H Q => ∃ M : V → Hp → Prop, t σ H M ∧ ∀ v H', M v H' → Q v H'
theorem pe_mid {X : Cx} {e : Expr} {t : TE} (h : PE X e t) : PE X e (tMidE t) := ⟨fun pins s σ H Q I ⟨M, hm, k⟩ => thn (h.run pins s σ H M I hm) fun v s' ⟨x, H', I', r, q⟩ => ⟨x, H', I', r, k x H' q⟩⟩
theorem c_midE {te : TE} {σ : L2.St} {H : Hp} {Q : VK} (M : V → Hp → Prop) (h : te σ H M) (k : ∀ v H', M v H' → Q v H') : tMidE te σ H Q := ⟨M, h, k⟩
/-- what is new in H' -/
def Nw (H H' : Hp) : Hp := fun a => match H a with
  | none => H' a
  | some _ => none
section
variable {S : Addr} {H H' H2 : Hp}
theorem Nw.of {a : Addr} {o : HO} (h : H' a = some o) (n : H a = none) : Nw H H' a = some o := by
  unfold Nw
  rw [n]
  exact h
theorem Nw.to : Same (Nw H H') H' := fun a o h => by
  unfold Nw at h
  cases e : H a with
  | none => rw [e] at h; exact h
  | some x => rw [e] at h; cases h
theorem Nw.no {a : Addr} {o : HO} (h : Nw H H' a = some o) : H a = none := by
  unfold Nw at h
  cases e : H a with
  | none => rfl
  | some x => rw [e] at h; cases h
theorem Nw.ne {a b : Addr} {o x : HO} (h : Nw H H' a = some o) (g : H b = some x) : a ≠ b := fun z => by
  rw [z] at h
  rw [Nw.no h] at g
  cases g
theorem Nw.aw {x : HO} (g : H S = some x) : Same (Nw H H') (Aw S H') := fun a o h => Aw.of (Nw.to _ _ h) (Nw.ne h g)
end
section
variable {S : Addr} {B H H1 H' : Hp}
theorem Nw.same (e : Same H H') : Same (Nw B H) (Nw B H') := fun a o h => Nw.of (e a o (Nw.to _ _ h)) (Nw.no h)
theorem Nw.ex {x : HO} (g : B S = some x) (e : Ex S H H') : Same (Nw B H) (Nw B H') := fun a o h => Nw.of (e a o (Nw.ne h g) (Nw.to _ _ h)) (Nw.no h)
theorem Nw.up (e : ∀ a, H a = none → B a = none) : Same (Nw H H') (Nw B H') := fun a o h => Nw.of (Nw.to _ _ h) (e a (Nw.no h))
theorem Nw.at {p : Addr} {o : HO} : Same (Aw p (Nw B H)) (Aw p (Nw B (upd H p o))) := fun a x h => by
  have n := Aw.ne h
  have h2 := Aw.to _ _ h
  refine Aw.of (Nw.of ?_ (Nw.no h2)) n
  rw [upd_ne n]
  exact Nw.to _ _ h2
theorem Nw.neI {a p : Addr} {o x : HO} (h : Nw B H a = some o) (n : B p = some x) : a ≠ p := Nw.ne h n
/-- what is free now was free before -/
theorem Ex.fr {x : HO} (e : Ex S H H') (g : H' S = some x) {a : Addr} (h : H' a = none) : H a = none := by
  by_cases z : a = S
  · subst z
    rw [g] at h
    cases h
  · exact e.free z h
end

/-! ### t * k, also by 1 (then t itself) -/
theorem mul_one (l : Addr) (its : Array Value) (n : Nat) (dd : Option Addr) (sl : Array (Option Value)) (u : Tok) :
    Meets (Builtin.«tuple.__mul__» ⟨[.ref l, .int 1 u], []⟩) (fun _ R s => s.heap.get? l = some { cls := .type "tuple", dict := dd, data := .seq its n, slots := sl } ∧ R (.ok (.ret (Value.ref l))) s) :=
  .of_wp fun prog w A R s h => by
    obtain ⟨hp, g, d, tk, os⟩ := s
    obtain ⟨there, h⟩ := h
    have f1 := AutoSeq1.idx_int
    wp_walk using wpAny_loadPart' there
    exact ⟨_, rfl, h⟩
def rRepTA (K : PySem.W.Frag) : R2 := fun x y H Q => ∃ (l : Addr) (k : Int) (xs : List V), x = .ref l ∧ y = .int k ∧ SqT K H l xs ∧ xs ≠ [] ∧ 1 ≤ k ∧ k ≤ 1000 ∧ xs.length ≤ 1000 ∧ (k = 1 → Q (.ref l) H) ∧ (2 ≤ k → ∀ p, H p = none → Q (.ref p) (upd H p (.tup (List.replicate k.toNat xs).flatten)))
theorem op_repTA {X : Cx} : OpR X (binaryOp .Mult) (rRepTA X.K) := by
  intro pins s σ H x y v u Q I rx ry h
  obtain ⟨l, k, xs, rfl, rfl, there, hne, k1, k2, hz, q1, q2⟩ := h
  by_cases one : k = 1
  · subst one
    cases rx
    obtain ⟨tk, rfl⟩ := ry
    obtain ⟨items, vals, ⟨⟨cl, dd, body, slots⟩, got, isT, num, isS⟩, few⟩ := I.tuple there
    dsimp only at isT isS
    subst isT isS
    have tT : s.TypeIs (.ref l) "tuple" := ⟨_, got, rfl⟩
    have tI := typeIs_int s 1 tk
    have left := int_rmul_tuple 1 tk l items.toArray num dd slots
    have right := call_meets (prog := X.prog) (w := X.w) (A := X.A) (E := X.xe) (Q := EP X pins σ Q) PySem.F.slot_tuple_mul tT PySem.F.entry_tuple_mul (PySem.F.args_tuple_mul_2 _ _) (mul_one l items.toArray num dd slots tk) ⟨got, ⟨.ref l, H, I, rfl, q1 rfl⟩⟩
    refine wpAny_binaryOp_repeat_ref (U := "int") (T := "tuple") (by decide) tT (fun z => typeIs_int z 1 tk) noFill_tuple_mul PySem.F.fills_int_mul PySem.F.slot_int_rmul repeat_tuple PySem.F.slot_int_index.lookup ?_
    exact call_meets PySem.F.slot_int_rmul tI PySem.F.entry_int_rmul (PySem.F.args_int_rmul_2 _ _) left ⟨got, rfl, tT, right⟩
  · exact op_repT pins s σ H _ _ v u Q I rx ry ⟨l, k, xs, rfl, rfl, there, hne, by omega, k2, hz, q2 (by omega)⟩

def RowOk (us : List V) : Prop := ∀ v ∈ us, v = .non ∨ ∃ i : Int, v = .int i ∧ -(10 ^ 18) ≤ i ∧ i ≤ 10 ^ 18
/-! ### predicates as trees, and the law's steps that build them -/
def cmpI (s : Str) (i n : Int) : Bool := if s = "<" then decide (i < n) else if s = "<=" then decide (i ≤ n) else if s = "=" then decide (i = n) else if s = "!=" then !decide (i = n) else if s = ">=" then decide (n ≤ i) else decide (n < i)
def cmpO (s : Str) (v : V) (n : Int) : Option Bool := match v with
  | .int i => some (cmpI s i n)
  | _ => none
def signs : List Str := ["<", "<=", "=", "!=", ">=", ">"]
def VNI (v : V) : Prop := v = .non ∨ ∃ i : Int, v = .int i
theorem row_vni {us : List V} (h : RowOk us) {v : V} (hv : v ∈ us) : VNI v := by
  rcases h v hv with e | ⟨i, e, _⟩
  · exact .inl e
  · exact .inr ⟨i, e⟩
theorem sign_in {s : Str} (h : s ∈ signs) : inV (.str s) [.str "<", .str "<=", .str "=", .str "!=", .str ">=", .str ">"] = true := by
  simp only [signs, List.mem_cons, List.not_mem_nil, or_false] at h
  rcases h with rfl | rfl | rfl | rfl | rfl | rfl <;> decide +kernel
theorem sign_ne {s x : Str} (h : s ∈ signs) (hx : x ∉ signs) : s ≠ x := fun e => hx (e ▸ h)
inductive Tr where
  | cmp (s : Str) (c : Nat) (n : Int)
  | mis (c : Nat)
  | neg (t : Tr)
  | unt (t : Tr)
  | jn (e : Bool) (ts : List Tr)
inductive Stp where
  | cmp (s : Str) (c : Nat) (n : Int)
  | mis (c : Nat)
  | neg
  | unt
  | jn (e : Bool) (k : Nat)
def jw (e : Bool) : Str := if e then "either" else "both"
def Stp.vals : Stp → List V
  | .cmp s c n => [.str s, .int (c : Int), .int n]
  | .mis c => [.str "missing", .int (c : Int)]
  | .neg => [.str "negation"]
  | .unt => [.str "untrue"]
  | .jn e k => [.str (jw e), .int (k : Int)]
def Stp.need : Stp → Nat
  | .neg => 1
  | .unt => 1
  | .jn _ k => k
  | _ => 0
def Stp.ok (w : Nat) : Stp → Prop
  | .cmp s c n => s ∈ signs ∧ c < w ∧ -(10 ^ 18) < n ∧ n < 10 ^ 18
  | .mis c => c < w
  | _ => True
def ex1 (ts : List Tr) : Stp → List Tr
  | .cmp s c n => ts ++ [.cmp s c n]
  | .mis c => ts ++ [.mis c]
  | .neg => ts.dropLast ++ [.neg (ts.getLastD (.mis 0))]
  | .unt => ts.dropLast ++ [.unt (ts.getLastD (.mis 0))]
  | .jn e k => ts.take (ts.length - k) ++ [.jn e (ts.drop (ts.length - k))]
def exs (ss : List Stp) : List Tr := ss.foldl ex1 []
theorem exs_snoc (ss : List Stp) (s : Stp) : exs (ss ++ [s]) = ex1 (exs ss) s := by
  unfold exs
  rw [List.foldl_append]
  rfl
theorem exs_take {ss : List Stp} {i : Nat} {s : Stp} (h : ss[i]? = some s) : exs (ss.take (i + 1)) = ex1 (exs (ss.take i)) s := by
  rw [List.take_add_one, h]
  exact exs_snoc _ _
theorem ex1_neg (us : List Tr) (t : Tr) : ex1 (us ++ [t]) .neg = us ++ [.neg t] := by simp [ex1]
theorem ex1_unt (us : List Tr) (t : Tr) : ex1 (us ++ [t]) .unt = us ++ [.unt t] := by simp [ex1]
theorem ex1_jn (us ws : List Tr) (e : Bool) : ex1 (us ++ ws) (.jn e ws.length) = us ++ [.jn e ws] := by simp [ex1]
theorem snocT {ts : List Tr} (h : 1 ≤ ts.length) : ∃ us t, ts = us ++ [t] := by
  rcases List.eq_nil_or_concat ts with e | ⟨r, v, e⟩
  · subst e
    simp at h
  · exact ⟨r, v, by simpa using e⟩
theorem splitT {ts : List Tr} {k : Nat} (h : k ≤ ts.length) : ∃ us ws, ts = us ++ ws ∧ ws.length = k :=
  ⟨ts.take (ts.length - k), ts.drop (ts.length - k), (List.take_append_drop _ _).symm, by rw [List.length_drop]; omega⟩
/-- every step finds enough on the stack -/
def Valid (ss : List Stp) : Prop := ∀ (i : Nat) (s : Stp), ss[i]? = some s → s.need ≤ (exs (ss.take i)).length
theorem Valid.nil : Valid [] := fun i s h => by simp at h
theorem Valid.snoc {ss : List Stp} {s : Stp} (v : Valid ss) (h : s.need ≤ (exs ss).length) : Valid (ss ++ [s]) := fun i x hx => by
  by_cases hi : i < ss.length
  · rw [List.getElem?_append_left hi] at hx
    rw [List.take_append_of_le_length (Nat.le_of_lt hi)]
    exact v i x hx
  · have hi2 : i = ss.length := by
      have := (List.getElem?_eq_some_iff.mp hx).1
      simp at this
      omega
    subst hi2
    rw [List.getElem?_append_right (Nat.le_refl _), Nat.sub_self] at hx
    simp at hx
    subst hx
    rw [List.take_append_of_le_length (Nat.le_refl _), List.take_length]
    exact h
structure Stps (w : Nat) (H : Hp) (xs : List V) (ss : List Stp) : Prop where
  len : xs.length = ss.length
  at_ : ∀ (i : Nat) (s : Stp), ss[i]? = some s → ∃ a : Addr, xs[i]? = some (V.ref a) ∧ H a = some (.tup (Stp.vals s))
  ok : ∀ s ∈ ss, s.ok w
theorem Stps.keep {w : Nat} {H H' : Hp} {xs : List V} {ss : List Stp} (h : Stps w H xs ss) (e : Tp H H') : Stps w H' xs ss :=
  ⟨h.len, fun i s hi => let ⟨a, x, y⟩ := h.at_ i s hi; ⟨a, x, e _ _ y (fun _ z => nomatch z)⟩, h.ok⟩
theorem Stps.nil {w : Nat} {H : Hp} : Stps w H [] [] := ⟨rfl, fun i s h => by simp at h, fun s h => nomatch h⟩
theorem Stps.snoc {w : Nat} {H : Hp} {xs : List V} {ss : List Stp} {a : Addr} {s : Stp} (h : Stps w H xs ss) (ha : H a = some (.tup s.vals)) (hs : s.ok w) : Stps w H (xs ++ [.ref a]) (ss ++ [s]) :=
  ⟨by simp [h.len], fun i x hx => by
    by_cases hi : i < ss.length
    · rw [List.getElem?_append_left hi] at hx
      rw [List.getElem?_append_left (by rw [h.len]; exact hi)]
      exact h.at_ i x hx
    · have hi2 : i = ss.length := by
        have := (List.getElem?_eq_some_iff.mp hx).1
        simp at this
        omega
      subst hi2
      rw [List.getElem?_append_right (Nat.le_refl _), Nat.sub_self] at hx
      rw [List.getElem?_append_right (by rw [h.len]; exact Nat.le_refl _), h.len, Nat.sub_self]
      simp at hx
      subst hx
      exact ⟨a, rfl, ha⟩, fun x hx => by
    rcases List.mem_append.mp hx with hx | hx
    · exact h.ok x hx
    · rw [List.mem_singleton] at hx
      subst hx
      exact hs⟩
theorem Stps.get {w : Nat} {H : Hp} {xs : List V} {ss : List Stp} (h : Stps w H xs ss) {i : Nat} {x : V} (hx : xs[i]? = some x) : ∃ s a, ss[i]? = some s ∧ x = V.ref a ∧ H a = some (.tup s.vals) ∧ s.ok w := by
  have hi : i < ss.length := by
    have := (List.getElem?_eq_some_iff.mp hx).1
    rw [h.len] at this
    exact this
  obtain ⟨a, h1, h2⟩ := h.at_ i _ (List.getElem?_eq_getElem hi)
  rw [hx] at h1
  exact ⟨ss[i], a, List.getElem?_eq_getElem hi, Option.some.inj h1, h2, h.ok _ (List.getElem_mem hi)⟩
mutual
/-- in H the value is the tree; it has at most so many nodes -/
inductive PTr (K : PySem.W.Frag) (w : Nat) (H : Hp) : V → Tr → Nat → Prop where
  | cmp {a : Addr} {s : Str} {c : Nat} {n : Int} (hs : s ∈ signs) (hc : c < w) (h0 : -(10 ^ 18) < n) (h1 : n < 10 ^ 18) (h : SqT K H a [.str s, .int (c : Int), .int n]) : PTr K w H (.ref a) (.cmp s c n) 1
  | mis {a : Addr} {c : Nat} (hc : c < w) (h : SqT K H a [.str "missing", .int (c : Int)]) : PTr K w H (.ref a) (.mis c) 1
  | neg {a : Addr} {v : V} {t : Tr} {m : Nat} (h : SqT K H a [.str "negation", v]) (p : PTr K w H v t m) : PTr K w H (.ref a) (.neg t) (m + 1)
  | unt {a : Addr} {v : V} {t : Tr} {m : Nat} (h : SqT K H a [.str "untrue", v]) (p : PTr K w H v t m) : PTr K w H (.ref a) (.unt t) (m + 1)
  | jn {a : Addr} {e : Bool} {vs : List V} {ts : List Tr} {m : Nat} (h : SqT K H a (.str (jw e) :: vs)) (p : PTrs K w H vs ts m) : PTr K w H (.ref a) (.jn e ts) (m + 1)
inductive PTrs (K : PySem.W.Frag) (w : Nat) (H : Hp) : List V → List Tr → Nat → Prop where
  | nil : PTrs K w H [] [] 0
  | cons {v : V} {t : Tr} {vs : List V} {ts : List Tr} {m k : Nat} (p : PTr K w H v t m) (r : PTrs K w H vs ts k) : PTrs K w H (v :: vs) (t :: ts) (m + k)
end
section
variable {K : PySem.W.Frag} {w : Nat} {H H' : Hp}
theorem PTr.keep {v : V} {t : Tr} {m : Nat} (h : PTr K w H v t m) (e : Tp H H') : PTr K w H' v t m :=
  h.rec (motive_1 := fun v t m _ => PTr K w H' v t m) (motive_2 := fun vs ts m _ => PTrs K w H' vs ts m) (fun a b c d h => .cmp a b c d (e.tup h)) (fun a h => .mis a (e.tup h)) (fun h _ i => .neg (e.tup h) i) (fun h _ i => .unt (e.tup h) i) (fun h _ i => .jn (e.tup h) i) .nil (fun _ _ a b => .cons a b)
theorem PTrs.keep {vs : List V} {ts : List Tr} {m : Nat} (h : PTrs K w H vs ts m) (e : Tp H H') : PTrs K w H' vs ts m :=
  h.rec (motive_1 := fun v t m _ => PTr K w H' v t m) (motive_2 := fun vs ts m _ => PTrs K w H' vs ts m) (fun a b c d h => .cmp a b c d (e.tup h)) (fun a h => .mis a (e.tup h)) (fun h _ i => .neg (e.tup h) i) (fun h _ i => .unt (e.tup h) i) (fun h _ i => .jn (e.tup h) i) .nil (fun _ _ a b => .cons a b)
theorem PTr.pos {v : V} {t : Tr} {m : Nat} (h : PTr K w H v t m) : 0 < m := by
  cases h <;> omega
theorem PTrs.len {vs : List V} {ts : List Tr} {m : Nat} (h : PTrs K w H vs ts m) : vs.length = ts.length := by
  induction ts generalizing vs m with
  | nil => cases h; rfl
  | cons t ts ih =>
    cases h with
    | cons p r => simp [ih r]
theorem PTrs.le {vs : List V} {ts : List Tr} {m : Nat} (h : PTrs K w H vs ts m) : ts.length ≤ m := by
  induction ts generalizing vs m with
  | nil => exact Nat.zero_le _
  | cons t ts ih =>
    cases h with
    | cons p r =>
      have := ih r
      have := p.pos
      simp
      omega
theorem PTrs.app {vs us : List V} {ts ws : List Tr} {m n : Nat} (h : PTrs K w H vs ts m) (g : PTrs K w H us ws n) : PTrs K w H (vs ++ us) (ts ++ ws) (m + n) := by
  induction ts generalizing vs m with
  | nil =>
    cases h
    simpa using g
  | cons t ts ih =>
    cases h with
    | cons p r =>
      rw [Nat.add_assoc]
      exact .cons p (ih r)
theorem PTrs.one {v : V} {t : Tr} {m : Nat} (h : PTr K w H v t m) : PTrs K w H [v] [t] m := .cons h .nil
theorem PTrs.split {ts ws : List Tr} : ∀ {vs : List V} {m : Nat}, PTrs K w H vs (ts ++ ws) m → ∃ xs ys i j, vs = xs ++ ys ∧ m = i + j ∧ PTrs K w H xs ts i ∧ PTrs K w H ys ws j := by
  induction ts with
  | nil => exact fun {vs m} h => ⟨[], vs, 0, m, rfl, (Nat.zero_add _).symm, .nil, h⟩
  | cons t ts ih =>
    intro vs m h
    cases h with
    | cons p r =>
      obtain ⟨xs, ys, i, j, e1, e2, h1, h2⟩ := ih r
      exact ⟨_ :: xs, ys, _ + i, j, by rw [e1]; rfl, by rw [e2, Nat.add_assoc], .cons p h1, h2⟩
theorem PTrs.sing {vs : List V} {t : Tr} {m : Nat} (h : PTrs K w H vs [t] m) : ∃ v, vs = [v] ∧ PTr K w H v t m := by
  cases h with
  | cons p r =>
    cases r
    exact ⟨_, rfl, p⟩
theorem PTrs.get {ts : List Tr} : ∀ {vs : List V} {m i : Nat} {v : V}, PTrs K w H vs ts m → vs[i]? = some v → ∃ t k, ts[i]? = some t ∧ PTr K w H v t k ∧ k ≤ m := by
  induction ts with
  | nil =>
    intro vs m i v h hi
    cases h
    simp at hi
  | cons t ts ih =>
    intro vs m i v h hi
    cases h with
    | cons p r =>
      cases i with
      | zero =>
        simp at hi
        subst hi
        exact ⟨t, _, rfl, p, by omega⟩
      | succ i =>
        simp at hi
        obtain ⟨t', k, h1, h2, h3⟩ := ih r hi
        exact ⟨t', k, by simpa using h1, h2, by omega⟩
end
/-! what a predicate says of a row -/
def jnv (e : Bool) (bs : List (Option Bool)) : Option Bool := if bs.contains (some e) = true then some e else if bs.contains none = true then none else some (!e)
mutual
def ev (us : List V) : Tr → Option Bool
  | .cmp s c n => cmpO s (us.getD c .non) n
  | .mis c => some (decide (us.getD c .non = .non))
  | .neg t => (ev us t).map not
  | .unt t => some (!decide (ev us t = some true))
  | .jn e ts => jnv e (evs us ts)
def evs (us : List V) : List Tr → List (Option Bool)
  | [] => []
  | t :: ts => ev us t :: evs us ts
end
theorem evs_map (us : List V) : ∀ ts, evs us ts = ts.map (ev us)
  | [] => rfl
  | t :: ts => by
    rw [evs, evs_map us ts]
    rfl
theorem ev_jn (us : List V) (e : Bool) (ts : List Tr) : ev us (.jn e ts) = jnv e (ts.map (ev us)) := by
  rw [ev, evs_map]
def kids : Tr → List Tr
  | .neg t => [t]
  | .unt t => [t]
  | .jn _ ts => ts
  | _ => []
theorem jw_ne {x : Str} {e : Bool} (h : jw false ≠ x ∧ jw true ≠ x) : jw e ≠ x := by
  cases e
  · exact h.1
  · exact h.2
theorem jw_nin {e : Bool} : inV (.str (jw e)) [.str "<", .str "<=", .str "=", .str "!=", .str ">=", .str ">"] = false := by
  cases e <;> decide +kernel
theorem PTr.word {K : PySem.W.Frag} {w : Nat} {H : Hp} {v : V} {t : Tr} {m : Nat} (h : PTr K w H v t m) :
    (∃ a s c n, v = .ref a ∧ t = .cmp s c n ∧ s ∈ signs ∧ c < w ∧ -(10 ^ 18) < n ∧ n < 10 ^ 18 ∧ SqT K H a [.str s, .int (c : Int), .int n]) ∨ (∃ a c, v = .ref a ∧ t = .mis c ∧ c < w ∧ SqT K H a [.str "missing", .int (c : Int)]) ∨
    ∃ a x vs, v = .ref a ∧ SqT K H a (.str x :: vs) ∧ inV (.str x) [.str "<", .str "<=", .str "=", .str "!=", .str ">=", .str ">"] = false ∧ x ≠ "missing" ∧ ((x = "negation" ∧ ∃ t', t = .neg t') ∨ (x = "untrue" ∧ ∃ t', t = .unt t') ∨ ∃ e ts, x = jw e ∧ t = .jn e ts) := by
  cases h with
  | cmp hs hc h0 h1 h => exact .inl ⟨_, _, _, _, rfl, rfl, hs, hc, h0, h1, h⟩
  | mis hc h => exact .inr (.inl ⟨_, _, rfl, rfl, hc, h⟩)
  | neg h p => exact .inr (.inr ⟨_, _, _, rfl, h, by decide +kernel, by decide +kernel, .inl ⟨rfl, _, rfl⟩⟩)
  | unt h p => exact .inr (.inr ⟨_, _, _, rfl, h, by decide +kernel, by decide +kernel, .inr (.inl ⟨rfl, _, rfl⟩)⟩)
  | jn h p => exact .inr (.inr ⟨_, _, _, rfl, h, jw_nin, jw_ne (by decide +kernel), .inr (.inr ⟨_, _, rfl, rfl⟩)⟩)

/-! ### a walk by what holds ahead of each turn -/
section
variable {K : PySem.W.Frag} {a : Addr} {xs : List V} {G0 : Hp} {Qd : Hp → Prop} {B : V → Hp → (Hp → Prop) → Prop}
theorem walkL (Pv : Nat → Hp → Prop) (h0 : Pv 0 G0) (hl : ∀ i H, i ≤ xs.length → Pv i H → SqL K H a xs) (hs : ∀ i x H, xs[i]? = some x → Pv i H → B x H (Pv (i + 1))) (hd : ∀ H, Pv xs.length H → Qd H) :
    ∃ W : Nat → Nat → Hp → Prop, (∃ m, W 0 m G0) ∧ ∀ i m H, W i m H → ((Itl K a).stop i H ∧ Qd H) ∨ ((Itl K a).go i H ∧ ∃ Nx : Hp → Prop, (∀ H', Nx H' → ∃ m', m' < m ∧ W (i + 1) m' H') ∧ ∀ x H', (Itl K a).yld i H x H' → B x H' Nx) := by
  refine ⟨fun i m H => m = xs.length - i ∧ i ≤ xs.length ∧ Pv i H, ⟨xs.length, rfl, Nat.zero_le _, h0⟩, fun i m H hw => ?_⟩
  obtain ⟨rfl, hi, p⟩ := hw
  have q := hl i H hi p
  by_cases lt : i < xs.length
  · refine .inr ⟨⟨xs, xs[i], q, List.getElem?_eq_getElem lt⟩, Pv (i + 1), fun H' n => ⟨xs.length - (i + 1), by omega, rfl, lt, n⟩, fun x H' hy => ?_⟩
    obtain ⟨rfl, hx⟩ := hy
    exact hs i x H' (hx xs q) p
  · refine .inl ⟨⟨xs, q, by omega⟩, hd H ?_⟩
    have e : i = xs.length := by omega
    exact e ▸ p
theorem walkT (Pv : Nat → Hp → Prop) (h0 : Pv 0 G0) (hl : ∀ i H, i ≤ xs.length → Pv i H → SqT K H a xs) (hs : ∀ i x H, xs[i]? = some x → Pv i H → B x H (Pv (i + 1))) (hd : ∀ H, Pv xs.length H → Qd H) :
    ∃ W : Nat → Nat → Hp → Prop, (∃ m, W 0 m G0) ∧ ∀ i m H, W i m H → ((Itt K a).stop i H ∧ Qd H) ∨ ((Itt K a).go i H ∧ ∃ Nx : Hp → Prop, (∀ H', Nx H' → ∃ m', m' < m ∧ W (i + 1) m' H') ∧ ∀ x H', (Itt K a).yld i H x H' → B x H' Nx) := by
  refine ⟨fun i m H => m = xs.length - i ∧ i ≤ xs.length ∧ Pv i H, ⟨xs.length, rfl, Nat.zero_le _, h0⟩, fun i m H hw => ?_⟩
  obtain ⟨rfl, hi, p⟩ := hw
  have q := hl i H hi p
  by_cases lt : i < xs.length
  · refine .inr ⟨⟨xs, xs[i], q, List.getElem?_eq_getElem lt⟩, Pv (i + 1), fun H' n => ⟨xs.length - (i + 1), by omega, rfl, lt, n⟩, fun x H' hy => ?_⟩
    obtain ⟨rfl, hx⟩ := hy
    exact hs i x H' (hx xs q) p
  · refine .inl ⟨⟨xs, q, by omega⟩, hd H ?_⟩
    have e : i = xs.length := by omega
    exact e ▸ p
end

end Y
/-! ### list(reversed(a list)) -/
namespace RT
open PySem PySem.Spec PyProof.Rows L2
section
variable {prog : Program} {w : World} {A : Around} {s : Shared} {R : Result → Shared → Prop} {E : Value → Shared → Prop}
theorem extend_revL {it l : Addr} {items : Array Value} (hh : A.handled = none) (hit : s.heap.IsRevIter it l ((items.size : Int) - 1)) (hl : s.heap.IsList l items) (hne : l ≠ it) (hn : items.size ≤ sizeLine) (S : Addr) (hSi : S ≠ it) (hSl : S ≠ l) (c₀ : Nat)
    (hS : s.heap.get? S = some { cls := .type "list", data := .seq #[] c₀ })
    (hR : ∀ (h' : Heap) (tk : Nat) (acc : Array Value) (c' : Nat), (∀ b o, b ≠ S → b ≠ it → s.heap.get? b = some o → h'.get? b = some o) → h'.get? S = some { cls := .type "list", dict := none, data := .seq acc c', slots := #[] } →
      ItemsOf (fun i v => items[items.size - 1 - i]? = some v) acc items.size → R (.ok (.ret .none)) { s with heap := h', toks := tk }) :
    wpAny (model prog w) A.in1 (Builtin.List.listExtendWith (.ref S) (.ref it) .none)
      (fun fin s' => match fin with | .done f => R (.ok f) s' | .again c' => c'.quiet = true ∧ codeAny (model prog w) A c' R s') (fun e s' => R (.error e) s') s := by
  have W := (Walks.listRev (prog := prog) (w := w) (A := A.in1) hh it l hne items).toS
  have hSf : S ∉ [it, l] := by simp only [List.mem_cons, List.not_mem_nil, or_false, not_or]; exact ⟨hSi, hSl⟩
  have hT : s.TypeIs (.ref it) "list_reverseiterator" := hit.typeIs
  have h1 : Builtin.List.listSameRef (.ref S) (.ref it) = false := by simp [Builtin.List.listSameRef, hSi]
  unfold Builtin.List.listExtendWith
  refine wpAny_bind (wpAny_typeOf hT ?_)
  rw [if_neg (by rw [h1]; decide)]
  refine wpAny_bind (wpAny_pyIter_revIter hit ?_)
  refine wpAny_bind (wpAny_holding ?_)
  unfold Builtin.List.listLengthHint
  refine wpAny_bind (wpAny_specialOf hT nolen_lri ?_)
  show wpAny _ A.in1 (specialOf (Value.ref it) (Str.ofString "__length_hint__") >>= _) _ _ _
  refine wpAny_bind (wpAny_specialOf hT hint_lri ?_)
  generalize hid : ("list_reverseiterator.__length_hint__" : String) = id0
  wp_delta
  rw [show splitId id0 = some ("list_reverseiterator", "__length_hint__") from by subst hid; decide +kernel]
  subst hid
  refine wpAny_bind (wpAny_isInstance (b := true) hT (by rw [isSubtype_type]; kernel_rfl) ?_)
  refine wpAny_pure ?_
  rw [if_neg (by decide)]
  have e0 : ((items.size : Nat) : Int) - 1 - ((0 : Nat) : Int) = (items.size : Int) - 1 := by omega
  refine wpAny_pure ⟨plainId_quiet F.plain_extend_loop _, codeAny_extend_loopS W hn _ hSf _ items.size 0 _ _ _ rfl (Nat.zero_le _) ⟨Nat.zero_le _, by rw [e0]; exact hit, hl⟩ hS (ItemsOf.nil _) fun s' acc' c' hm hS' hacc => ?_⟩
  rw [Moved.eq_with hm]
  refine hR s'.heap s'.toks acc' c' (fun b o hb hi e => hm.heap b o (fun hmem => ?_) e) hS' hacc
  rcases List.mem_cons.mp hmem with e' | hmem
  · exact hb e'
  · exact hi (List.mem_singleton.mp hmem)
theorem list_init_rev {it l : Addr} {items : Array Value} (hh : A.handled = none) (hit : s.heap.IsRevIter it l ((items.size : Int) - 1)) (hl : s.heap.IsList l items) (hne : l ≠ it) (hn : items.size ≤ sizeLine) (S : Addr) (hSi : S ≠ it) (hSl : S ≠ l)
    (hS : s.heap.get? S = some { cls := .type "list", data := .seq #[] })
    (hR : ∀ (h' : Heap) (tk : Nat) (acc : Array Value) (c' : Nat), (∀ b o, b ≠ S → b ≠ it → s.heap.get? b = some o → h'.get? b = some o) → h'.get? S = some { cls := .type "list", dict := none, data := .seq acc c', slots := #[] } →
      ItemsOf (fun i v => items[items.size - 1 - i]? = some v) acc items.size → R (.ok (.ret .none)) { s with heap := h', toks := tk }) :
    wpAny (model prog w) A.in1 (Builtin.«list.__init__» ⟨[.ref S, .ref it], []⟩)
      (fun fin s' => match fin with | .done f => R (.ok f) s' | .again c' => c'.quiet = true ∧ codeAny (model prog w) A c' R s') (fun e s' => R (.error e) s') s := by
  show wpAny _ A.in1 (do let old ← Builtin.List.listItems (.ref S); Builtin.List.listUpdate (.ref S) (fun _ => #[]); letGo old.toList.reverse; Builtin.List.listExtendWith (.ref S) (.ref it) .none) _ _ s
  refine wpAny_bind ?_
  unfold Builtin.List.listItems
  refine wpAny_bind (wpAny_seqItems hS rfl (wpAny_pure ?_))
  show wpAny _ A.in1 (updateSeq S (fun _ => #[]) >>= fun _ => letGo (#[] : Array Value).toList.reverse >>= fun _ => Builtin.List.listExtendWith (.ref S) (.ref it) .none) _ _ s
  refine wpAny_bind (wpAny_updateSeq hS rfl ?_)
  have hS₂ := Heap.get?_update_self (Obj.mapSeq (fun _ => (#[] : Array Value))) hS rfl
  have oth : ∀ b o, b ≠ S → s.heap.get? b = some o → (s.heap.update S (Obj.mapSeq (fun _ => (#[] : Array Value)))).get? b = some o :=
    fun b o hb e => (Heap.get?_update_other _ _ (Ne.symm hb)).trans e
  refine wpAny_bind (wpAny_letGo ?_)
  refine extend_revL hh (hit.at fun o e => oth _ o (Ne.symm hSi) e) (hl.at fun o e => oth _ o (Ne.symm hSl) e) hne hn S hSi hSl _ hS₂ fun h' tk acc c' hk hS' hacc => ?_
  exact hR h' tk acc c' (fun b o hb hi e => hk b o hb hi (oth b o hb e)) hS' hacc
theorem call_list_rev {it l : Addr} {items : Array Value} {Q : Value → Shared → Prop} (hh : A.handled = none) (hit : s.heap.IsRevIter it l ((items.size : Int) - 1)) (hl : s.heap.IsList l items) (hne : l ≠ it) (hn : items.size ≤ sizeLine)
    (hQ : ∀ (h' : Heap) (tk : Nat) (acc : Array Value) (c' : Nat), (∀ b o, b ≠ it → s.heap.get? b = some o → h'.get? b = some o) → h'.get? s.heap.objs.size = some { cls := .type "list", dict := none, data := .seq acc c', slots := #[] } →
      ItemsOf (fun i v => items[items.size - 1 - i]? = some v) acc items.size → Q (.ref s.heap.objs.size) { s with heap := h', toks := tk }) :
    wpAny (model prog w) A (call (.type "list") [.ref it]) Q E s := by
  obtain ⟨oi, hoi, _⟩ := id hit
  obtain ⟨ol, hol, _⟩ := id hl
  have hSi : s.heap.objs.size ≠ it := Nat.ne_of_gt (Heap.lt_size hoi)
  have hSl : s.heap.objs.size ≠ l := Nat.ne_of_gt (Heap.lt_size hol)
  refine callType_codes (Q₁ := fun obj s₁ => obj = .ref s.heap.objs.size ∧ s₁ = { s with heap := s.heap.push { cls := .type "list", data := .seq #[] } }) F.called_list (F.typeCall_list_1 _) F.entry_list_init
    (code_list_new _ ⟨rfl, rfl⟩) fun obj s₁ h₁ => ?_
  obtain ⟨rfl, rfl⟩ := h₁
  have hS : (s.heap.push { cls := .type "list", data := .seq #[] }).get? s.heap.objs.size = some { cls := .type "list", data := .seq #[] } := Heap.get?_push_size _ rfl
  refine ⟨⟨_, hS, rfl⟩, F.args_list_init_2 _ _, list_init_rev (A := A.in1) hh (hit.at fun o e => Heap.get?_push_of_some _ e) (hl.push _) hne hn _ hSi hSl hS fun h' tk acc' c' hk hS' hacc => ?_⟩
  exact ⟨rfl, hQ h' tk acc' c' (fun b o hb e => hk b o (Nat.ne_of_lt (Heap.lt_size e)) hb (Heap.get?_push_of_some _ e)) hS' hacc⟩
end
/-- list(reversed(x)), x a list: a new list -/
def tLstRev (K : PySem.W.Frag) (te : TE) : TE := fun σ H Q => te σ H fun v H1 => ∃ (a : Addr) (xs : List V), v = .ref a ∧ SqL K H1 a xs ∧ ∀ q, H1 q = none → Q (.ref q) (upd H1 q (.lst xs.reverse))
section
variable {X : Cx}
theorem pe_lstRev {e : Expr} {te : TE} {p p2 pos pos2 : Pos} (hc : X.calm = true) (hg : Gl X "list") (hm : X.mg "list" = none) (hg2 : Gl X "reversed") (hm2 : X.mg "reversed" = none) (he : PE X e te)
    (hs : starEach [e] X.env = (false, eval e X.env) :: starEach [] X.env := by rfl)
    (hs2 : starEach [.Call (.Name "reversed" p2) [e] [] pos2] X.env = (false, eval (.Call (.Name "reversed" p2) [e] [] pos2) X.env) :: starEach [] X.env := by rfl) :
    PE X (.Call (.Name "list" p) [.Call (.Name "reversed" p2) [e] [] pos2] [] pos) (tLstRev X.K te) := by
  refine ⟨fun pins s σ H Q I h => ?_⟩
  refine Call_ (ld_blt I hg hm boot_list (PyProof.Rows.callWith_type1 (args_cons (Call_ (ld_blt I hg2 hm2 PyProof.Rows.boot_reversed (PyProof.Rows.callWith_type1 (args_cons (thn (he.run pins s σ H _ I h) fun u s1 ⟨v, H1, I1, r1, q1⟩ => args_nil ?_) hs) hs rfl))) hs2) hs2 rfl))
  obtain ⟨a, xs, ev, hq, q⟩ := q1
  subst ev
  obtain rfl : u = Value.ref a := r1
  obtain ⟨its, rv, p', hz⟩ := I1.list hq
  refine call_reversed_list p'.isList (args_nil ?_)
  have k0 : ∀ b o, s1.heap.get? b = some o → (s1.heap.push (revObj a ((its.toArray.size : Int) - 1))).get? b = some o := fun b o e => Heap.get?_push_of_some _ e
  have I2 : Inv X pins σ H1 { s1 with heap := s1.heap.push (revObj a ((its.toArray.size : Int) - 1)) } := I1.kept (t' := s1.toks) k0
  have hl := p'.isList
  obtain ⟨ol, hol, _⟩ := id hl
  have hne : a ≠ s1.heap.objs.size := Nat.ne_of_lt (Heap.lt_size hol)
  have hn : its.toArray.size ≤ sizeLine := by rw [List.size_toArray, ← rv.length]; exact hz
  refine call_list_rev (s := { s1 with heap := s1.heap.push (revObj a ((its.toArray.size : Int) - 1)) }) (I1.ok.hd hc) ⟨_, Heap.get?_push_size _ rfl, rfl, rfl⟩ (hl.push _) hne hn fun h' tk acc c' hk hS hi => ?_
  have hk1 : ∀ b o, s1.heap.get? b = some o → h'.get? b = some o := fun b o e => hk b o (Nat.ne_of_lt (Heap.lt_size e)) (k0 b o e)
  have hsz : s1.heap.objs.size ≤ (s1.heap.push (revObj a ((its.toArray.size : Int) - 1))).objs.size := by
    simp [Heap.push]
  refine ⟨.ref _, upd H1 _ (.lst xs.reverse), I1.laid hk1 hsz (show ObjOk X.prog X.w _ _ _ (.lst xs.reverse) from ⟨by rw [List.length_reverse]; exact hz, acc.toList, c', vals_rev rv hi, ?_⟩), rfl, q _ (I1.hok.fresh hsz)⟩
  rw [Array.toArray_toList]
  exact hS
end
end RT
namespace Y
open PySem PySem.Spec PyProof.Rows L2 RT
section
variable {K : PySem.W.Frag} {σ : L2.St} {H : Hp} {Q : VK}
theorem c_lstRev {te : TE} (h : te σ H fun v H1 => ∃ (a : Addr) (xs : List V), v = .ref a ∧ SqL K H1 a xs ∧ ∀ q, H1 q = none → Q (.ref q) (upd H1 q (.lst xs.reverse))) : tLstRev K te σ H Q := h
end

section Tac1
/-! ### the words: "rd" goes on as far as it can; "hp" finds what stands at an address; "t" "f" a test that is known -/
local macro_rules | `(tactic| walk_at "h0") => `(tactic| first | assumption | exact upd_same)
local macro_rules | `(tactic| walk_at "n0") => `(tactic| first
  | assumption | (apply Ne.symm; assumption) | exact ne_nn (by assumption) (by walk_at "h0") | exact ne_nn' (by assumption) (by walk_at "h0"))
local macro_rules | `(tactic| walk_at "hq") => `(tactic| first
  | assumption | exact upd_same | exact (upd_ne (by walk_at "n0")).trans (by walk_at "hq"))
local macro_rules | `(tactic| walk_at "ne") => `(tactic| first
  | assumption | (apply Ne.symm; assumption) | exact ne_nn (by assumption) (by walk_at "hq") | exact ne_nn' (by assumption) (by walk_at "hq"))
local macro_rules | `(tactic| walk_at "hp") => `(tactic| first
  | assumption
  | exact upd_same
  | exact (upd_ne (by walk_at "ne")).trans (by walk_at "hp")
  | exact same_at (by assumption) (by walk_at "hp")
  | exact ex_at (by assumption) (by walk_at "ne") (by walk_at "hp"))
local macro_rules | `(tactic| walk_at "sm") => `(tactic| first
  | assumption
  | exact Same.refl _
  | exact same_new (by walk_at "sm") (by assumption)
  | exact same_mut (by walk_at "sm") (by assumption))
local macro_rules | `(tactic| walk_at "ex") => `(tactic| first
  | assumption
  | exact Ex.refl _ _
  | exact Ex.new (by walk_at "ex") (by assumption)
  | exact Ex.mut (by walk_at "ex") (by assumption)
  | exact Ex.at (by walk_at "ex"))
local macro_rules | `(tactic| walk_at "sa") => `(tactic| first
  | assumption
  | exact seq' (by assumption) (by walk_at "sm")
  | exact tup' (by assumption) (by walk_at "sm"))
local macro_rules | `(tactic| walk_at "sq") => `(tactic| first
  | assumption
  | exact seq' (by assumption) (by walk_at "sm")
  | exact tup' (by assumption) (by walk_at "sm")
  | exact sql (by walk_at "hp")
  | exact sqt (by walk_at "hp"))
local macro_rules | `(tactic| walk_at "tt") => `(tactic| first | (simp; done) | (simp; omega))
local macro_rules | `(tactic| walk_at "tf") => `(tactic| first
  | ((with_reducible show if _ = true then _ else _); refine i_T (by walk_at "tt") ?_)
  | ((with_reducible show if _ = true then _ else _); refine i_F (by walk_at "tt") ?_))
local macro_rules | `(tactic| walk_at "ix") => `(tactic| first
  | exact ixn (j := 0) (by simp)
  | exact ixn (j := 1) (by simp)
  | exact ixn (j := 2) (by simp)
  | exact ixn (j := 3) (by simp)
  | exact ixn (j := 4) (by simp)
  | exact ixn (j := 5) (by simp)
  | exact ixn (j := 6) (by simp)
  | exact ixn (j := 7) (by simp))
local macro_rules | `(tactic| walk_at "at") => `(tactic| first
  | exact atI_nat (j := 0) (by rfl)
  | exact atI_nat (j := 1) (by rfl)
  | exact atI_nat (j := 2) (by rfl)
  | exact atI_nat (j := 3) (by rfl)
  | exact atI_nat (j := 4) (by rfl)
  | exact atI_nat (j := 5) (by rfl)
  | exact atI_nat (j := 6) (by rfl)
  | exact atI_nat (j := 7) (by rfl))
local macro_rules | `(tactic| walk_at "rd1") => `(tactic| first
  | with_reducible refine c_seq ?_
  | with_reducible refine c_asg ?_
  | ((with_reducible refine c_gname ?_); try dsimp only [List.set])
  | with_reducible refine c_ret ?_
  | with_reducible refine c_ifs ?_
  | ((with_reducible show tVar _ _ _ _); refine c_var (by rfl) ?_)
  | with_reducible refine c_c ?_
  | with_reducible refine c_op ?_
  | with_reducible refine c_un ?_
  | with_reducible refine c_test ?_
  | with_reducible refine c_B ?_
  | with_reducible refine c_CB ?_
  | with_reducible refine c_cons ?_
  | with_reducible refine c_nil ?_
  | with_reducible refine c_call ?_
  | with_reducible refine c_lst ?_
  | with_reducible refine c_tup ?_
  | with_reducible refine c_drop ?_
  | with_reducible refine c_gsub ?_
  | with_reducible refine c_BM ?_
  | with_reducible refine c_BM0 ?_
  | with_reducible refine c_and ?_
  | with_reducible refine c_or ?_
  | with_reducible refine c_not ?_
  | with_reducible refine c_andV ?_
  | with_reducible refine c_orV ?_
  | with_reducible refine c_notV ?_
  | with_reducible refine c_if ?_
  | with_reducible refine c_chain ?_
  | with_reducible refine c_next ?_
  | with_reducible refine c_retN ?_
  | with_reducible refine c_yes ?_
  | ((with_reducible show rIn _ _ (V.bl _) _ _ _); first | refine r_inL (by walk_at "sq") rfl (flat_bl _) ?_ | refine r_inL (by walk_at "sq") rfl (by rfl) ?_)
  | with_reducible refine r_I0 ?_
  | with_reducible refine r_U ?_
  | with_reducible refine r_eqI ?_
  | with_reducible refine r_neI ?_
  | with_reducible refine r_eqB ?_
  | with_reducible refine r_neB ?_
  | with_reducible refine r_eqS ?_
  | with_reducible refine r_neS ?_
  | ((with_reducible show rIxL _ _ (V.int (OfNat.ofNat _)) _ _); refine r_ixL (by walk_at "sq") (by walk_at "at") ?_)
  | ((with_reducible show rIxT _ _ (V.int (OfNat.ofNat _)) _ _); refine r_ixT (by walk_at "sq") (by walk_at "at") ?_)
  | ((with_reducible show rI CMul _ _ _ _ _); refine r_I (by first | exact .inl ⟨by omega, by omega⟩ | exact .inr ⟨by omega, by omega⟩) ?_)
  | ((with_reducible show rI CDiv _ _ _ _ _); refine r_I ⟨by omega, by omega⟩ ?_)
  | ((with_reducible show rI (fun _ _ => _) _ _ _ _ _); refine r_I (by first | assumption | omega | decide) ?_)
  | with_reducible refine r_pow18 ?_
  | with_reducible refine r_pow17 ?_
  | ((with_reducible show rSetL _ _ _ _ _); refine r_setL (by walk_at "hp") (by walk_at "ix") ?_; try dsimp only [List.set]; try simp only [upd_upd])
  | ((with_reducible show tyV _ _ _ _ ∧ _); refine ⟨.inl ⟨rfl, _, by walk_at "sq"⟩, ?_⟩)
  | ((with_reducible show rPop _ _ _ _); refine r_pop (by walk_at "hp") ?_)
  | ((with_reducible show rAppend _ _ _ _); refine r_app (by walk_at "hp") (by first | assumption | exact smallLt (by omega) | exact smallLt (by simp <;> omega)) ?_)
  | ((with_reducible show _ ≤ sizeLine ∧ _); refine ⟨small (by simp), ?_⟩)
  | ((with_reducible show V.non = V.non ∧ _); refine ⟨rfl, ?_⟩)
  | with_reducible refine iteT ?_
  | with_reducible refine iteF ?_
  | with_reducible refine ⟨_, rfl, ?_⟩
  | with_reducible refine ⟨_, _, rfl, ?_⟩
  | with_reducible refine Or.inl ⟨_, rfl, ?_⟩
  | with_reducible refine Or.inr ⟨_, rfl, ?_⟩
  | ((with_reducible show ∃ _ _, [_] = [_] ∧ _); first
    | refine ⟨_, _, rfl, Or.inl (by walk_at "sa"), ?_⟩ | refine ⟨_, _, rfl, Or.inr (by walk_at "sa"), ?_⟩
    | refine ⟨_, _, rfl, Or.inl (by exact sql (by walk_at "hp")), ?_⟩ | refine ⟨_, _, rfl, Or.inr (by exact sqt (by walk_at "hp")), ?_⟩))
local macro_rules | `(tactic| walk_at "nw") => `(tactic| (intro _ _))
local macro_rules | `(tactic| walk_at "rdn") => `(tactic| repeat (first | walk_at "rd1" | ((with_reducible show ∀ _ : Addr, _ = none → _); intro _ _)))
local macro_rules | `(tactic| walk_at "rd") => `(tactic| repeat walk_at "rd1")

def topS (i : Nat) : Stmt := PySem.Challenge.pw_wholepages_k32_rows_mark.main.body.getD i (.Pass ⟨0, 0, 0, 0⟩)
abbrev s_mark_of : Stmt := topS 4
abbrev N_mark_of : List Str := ["truths"]
theorem sc_mark_of : FnScope N_mark_of ["truths"] (defScope s_mark_of) := ⟨rfl, rfl, rfl, by decide +kernel, rfl, by decide +kernel, by decide +kernel⟩
abbrev s_parts_of : Stmt := topS 7
abbrev N_parts_of : List Str := ["predicate"]
theorem sc_parts_of : FnScope N_parts_of ["predicate"] (defScope s_parts_of) := ⟨rfl, rfl, rfl, by decide +kernel, rfl, by decide +kernel, by decide +kernel⟩
abbrev s_compares : Stmt := topS 8
abbrev N_compares : List Str := ["value", "sign", "number"]
theorem sc_compares : FnScope N_compares ["value", "sign", "number"] (defScope s_compares) := ⟨rfl, rfl, rfl, by decide +kernel, rfl, by decide +kernel, by decide +kernel⟩
abbrev s_comparison_truth : Stmt := topS 9
abbrev N_comparison_truth : List Str := ["value", "sign", "number"]
theorem sc_comparison_truth : FnScope N_comparison_truth ["value", "sign", "number"] (defScope s_comparison_truth) := ⟨rfl, rfl, rfl, by decide +kernel, rfl, by decide +kernel, by decide +kernel⟩
abbrev s_both_truth : Stmt := topS 10
abbrev N_both_truth : List Str := ["truths"]
theorem sc_both_truth : FnScope N_both_truth ["truths"] (defScope s_both_truth) := ⟨rfl, rfl, rfl, by decide +kernel, rfl, by decide +kernel, by decide +kernel⟩
abbrev s_either_truth : Stmt := topS 11
abbrev N_either_truth : List Str := ["truths"]
theorem sc_either_truth : FnScope N_either_truth ["truths"] (defScope s_either_truth) := ⟨rfl, rfl, rfl, by decide +kernel, rfl, by decide +kernel, by decide +kernel⟩
abbrev s_negation_truth : Stmt := topS 12
abbrev N_negation_truth : List Str := ["part"]
theorem sc_negation_truth : FnScope N_negation_truth ["part"] (defScope s_negation_truth) := ⟨rfl, rfl, rfl, by decide +kernel, rfl, by decide +kernel, by decide +kernel⟩
abbrev s_truth : Stmt := topS 13
abbrev N_truth : List Str := ["predicate", "row", "word", "truths", "part"]
theorem sc_truth : FnScope N_truth ["predicate", "row"] (defScope s_truth) := ⟨rfl, rfl, rfl, by decide +kernel, rfl, by decide +kernel, by decide +kernel⟩
abbrev s_holds : Stmt := topS 14
abbrev N_holds : List Str := ["predicate", "row"]
theorem sc_holds : FnScope N_holds ["predicate", "row"] (defScope s_holds) := ⟨rfl, rfl, rfl, by decide +kernel, rfl, by decide +kernel, by decide +kernel⟩
abbrev s_first_of_each : Stmt := topS 16
abbrev N_first_of_each : List Str := ["judged", "having", "lacking", "value", "row"]
theorem sc_first_of_each : FnScope N_first_of_each ["judged"] (defScope s_first_of_each) := ⟨rfl, rfl, rfl, by decide +kernel, rfl, by decide +kernel, by decide +kernel⟩
abbrev s_rows_mark : Stmt := topS 17
abbrev N_rows_mark : List Str := ["predicate", "rows", "row"]
theorem sc_rows_mark : FnScope N_rows_mark ["predicate", "rows"] (defScope s_rows_mark) := ⟨rfl, rfl, rfl, by decide +kernel, rfl, by decide +kernel, by decide +kernel⟩
abbrev s_rows_pair : Stmt := topS 18
abbrev N_rows_pair : List Str := ["predicate", "rows", "row"]
theorem sc_rows_pair : FnScope N_rows_pair ["predicate", "rows"] (defScope s_rows_pair) := ⟨rfl, rfl, rfl, by decide +kernel, rfl, by decide +kernel, by decide +kernel⟩
abbrev s__law_stream : Stmt := topS 20
abbrev N__law_stream : List Str := ["_law_script"]
theorem sc__law_stream : FnScope N__law_stream ["_law_script"] (defScope s__law_stream) := ⟨rfl, rfl, rfl, by decide +kernel, rfl, by decide +kernel, by decide +kernel⟩
abbrev s__law_draw : Stmt := topS 21
abbrev N__law_draw : List Str := ["_law_stream_here", "_law_many", "_law_place", "_law_cell", "_law_number_here"]
theorem sc__law_draw : FnScope N__law_draw ["_law_stream_here", "_law_many"] (defScope s__law_draw) := ⟨rfl, rfl, rfl, by decide +kernel, rfl, by decide +kernel, by decide +kernel⟩
abbrev s__law_number : Stmt := topS 22
abbrev N__law_number : List Str := ["_law_stream_here", "_law_most", "_law_kind"]
theorem sc__law_number : FnScope N__law_number ["_law_stream_here", "_law_most"] (defScope s__law_number) := ⟨rfl, rfl, rfl, by decide +kernel, rfl, by decide +kernel, by decide +kernel⟩
abbrev s__law_pool : Stmt := topS 23
abbrev N__law_pool : List Str := ["_law_stream_here", "_law_wide", "_law_pool_here", "_law_c", "_law_numbers", "_law_k"]
theorem sc__law_pool : FnScope N__law_pool ["_law_stream_here", "_law_wide"] (defScope s__law_pool) := ⟨rfl, rfl, rfl, by decide +kernel, rfl, by decide +kernel, by decide +kernel⟩
abbrev s__law_row : Stmt := topS 24
abbrev N__law_row : List Str := ["_law_stream_here", "_law_pool_here", "_law_row_here", "_law_numbers", "_law_kind"]
theorem sc__law_row : FnScope N__law_row ["_law_stream_here", "_law_pool_here"] (defScope s__law_row) := ⟨rfl, rfl, rfl, by decide +kernel, rfl, by decide +kernel, by decide +kernel⟩
abbrev s__law_leaf : Stmt := topS 25
abbrev N__law_leaf : List Str := ["_law_stream_here", "_law_pool_here", "_law_kind", "_law_c", "_law_sign"]
theorem sc__law_leaf : FnScope N__law_leaf ["_law_stream_here", "_law_pool_here"] (defScope s__law_leaf) := ⟨rfl, rfl, rfl, by decide +kernel, rfl, by decide +kernel, by decide +kernel⟩
abbrev s__law_recipe : Stmt := topS 26
abbrev N__law_recipe : List Str := ["_law_stream_here", "_law_pool_here", "_law_most", "_law_steps", "_law_depth", "_law_nodes", "_law_k", "_law_kind", "_law_many"]
theorem sc__law_recipe : FnScope N__law_recipe ["_law_stream_here", "_law_pool_here", "_law_most"] (defScope s__law_recipe) := ⟨rfl, rfl, rfl, by decide +kernel, rfl, by decide +kernel, by decide +kernel⟩
abbrev s__law_built : Stmt := topS 27
abbrev N__law_built : List Str := ["_law_steps", "_law_stack", "_law_step", "_law_part", "_law_rest"]
theorem sc__law_built : FnScope N__law_built ["_law_steps"] (defScope s__law_built) := ⟨rfl, rfl, rfl, by decide +kernel, rfl, by decide +kernel, by decide +kernel⟩
abbrev s__law_compared : Stmt := topS 28
abbrev N__law_compared : List Str := ["_law_sign", "_law_value", "_law_number_here"]
theorem sc__law_compared : FnScope N__law_compared ["_law_sign", "_law_value", "_law_number_here"] (defScope s__law_compared) := ⟨rfl, rfl, rfl, by decide +kernel, rfl, by decide +kernel, by decide +kernel⟩
abbrev s__law_joined : Stmt := topS 29
abbrev N__law_joined : List Str := ["_law_word", "_law_parts", "_law_decides"]
theorem sc__law_joined : FnScope N__law_joined ["_law_word", "_law_parts"] (defScope s__law_joined) := ⟨rfl, rfl, rfl, by decide +kernel, rfl, by decide +kernel, by decide +kernel⟩
abbrev s__law_judged : Stmt := topS 30
abbrev N__law_judged : List Str := ["_law_steps", "_law_row_here", "_law_stack", "_law_step", "_law_part", "_law_rest"]
theorem sc__law_judged : FnScope N__law_judged ["_law_steps", "_law_row_here"] (defScope s__law_judged) := ⟨rfl, rfl, rfl, by decide +kernel, rfl, by decide +kernel, by decide +kernel⟩
abbrev s__law_alike : Stmt := topS 31
abbrev N__law_alike : List Str := ["_law_told", "_law_due", "_law_left", "_law_k", "_law_pair", "_law_one", "_law_two", "_law_at"]
theorem sc__law_alike : FnScope N__law_alike ["_law_told", "_law_due"] (defScope s__law_alike) := ⟨rfl, rfl, rfl, by decide +kernel, rfl, by decide +kernel, by decide +kernel⟩
abbrev s__law_rows_due : Stmt := topS 32
abbrev N__law_rows_due : List Str := ["_law_steps", "_law_rows", "_law_inside", "_law_outside", "_law_row_here"]
theorem sc__law_rows_due : FnScope N__law_rows_due ["_law_steps", "_law_rows"] (defScope s__law_rows_due) := ⟨rfl, rfl, rfl, by decide +kernel, rfl, by decide +kernel, by decide +kernel⟩
abbrev s_law : Stmt := topS 33
abbrev N_law : List Str := ["_law_script", "_law_stream_here", "_law_pool_here", "_law_steps", "_law_predicate", "_law_rows", "_law_k", "_law_inside", "_law_outside", "_law_way", "_law_listed", "_law_kept", "_law_told", "_law_row_here"]
theorem sc_law : FnScope N_law ["_law_script"] (defScope s_law) := ⟨rfl, rfl, rfl, by decide +kernel, rfl, by decide +kernel, by decide +kernel⟩
structure Txt (K : PySem.W.Frag) (mg : Str → Option Value) : Type where
  a_mark_of : Addr
  d_mark_of : FuncData
  F_mark_of : Fun K "mark_of" "mark_of" s_mark_of a_mark_of d_mark_of
  b_mark_of : Binds K d_mark_of ["truths"] []
  g_mark_of : mg "mark_of" = some (.ref a_mark_of)
  a_parts_of : Addr
  d_parts_of : FuncData
  F_parts_of : Fun K "parts_of" "parts_of" s_parts_of a_parts_of d_parts_of
  b_parts_of : Binds K d_parts_of ["predicate"] []
  g_parts_of : mg "parts_of" = some (.ref a_parts_of)
  a_compares : Addr
  d_compares : FuncData
  F_compares : Fun K "compares" "compares" s_compares a_compares d_compares
  b_compares : Binds K d_compares ["value", "sign", "number"] []
  g_compares : mg "compares" = some (.ref a_compares)
  a_comparison_truth : Addr
  d_comparison_truth : FuncData
  F_comparison_truth : Fun K "comparison_truth" "comparison_truth" s_comparison_truth a_comparison_truth d_comparison_truth
  b_comparison_truth : Binds K d_comparison_truth ["value", "sign", "number"] []
  g_comparison_truth : mg "comparison_truth" = some (.ref a_comparison_truth)
  a_both_truth : Addr
  d_both_truth : FuncData
  F_both_truth : Fun K "both_truth" "both_truth" s_both_truth a_both_truth d_both_truth
  b_both_truth : Binds K d_both_truth ["truths"] []
  g_both_truth : mg "both_truth" = some (.ref a_both_truth)
  a_either_truth : Addr
  d_either_truth : FuncData
  F_either_truth : Fun K "either_truth" "either_truth" s_either_truth a_either_truth d_either_truth
  b_either_truth : Binds K d_either_truth ["truths"] []
  g_either_truth : mg "either_truth" = some (.ref a_either_truth)
  a_negation_truth : Addr
  d_negation_truth : FuncData
  F_negation_truth : Fun K "negation_truth" "negation_truth" s_negation_truth a_negation_truth d_negation_truth
  b_negation_truth : Binds K d_negation_truth ["part"] []
  g_negation_truth : mg "negation_truth" = some (.ref a_negation_truth)
  a_truth : Addr
  d_truth : FuncData
  F_truth : Fun K "truth" "truth" s_truth a_truth d_truth
  b_truth : Binds K d_truth ["predicate", "row"] []
  g_truth : mg "truth" = some (.ref a_truth)
  a_holds : Addr
  d_holds : FuncData
  F_holds : Fun K "holds" "holds" s_holds a_holds d_holds
  b_holds : Binds K d_holds ["predicate", "row"] []
  g_holds : mg "holds" = some (.ref a_holds)
  a_first_of_each : Addr
  d_first_of_each : FuncData
  F_first_of_each : Fun K "first_of_each" "first_of_each" s_first_of_each a_first_of_each d_first_of_each
  b_first_of_each : Binds K d_first_of_each ["judged"] []
  g_first_of_each : mg "first_of_each" = some (.ref a_first_of_each)
  a_rows_mark : Addr
  d_rows_mark : FuncData
  F_rows_mark : Fun K "rows_mark" "rows_mark" s_rows_mark a_rows_mark d_rows_mark
  b_rows_mark : Binds K d_rows_mark ["predicate", "rows"] []
  g_rows_mark : mg "rows_mark" = some (.ref a_rows_mark)
  a_rows_pair : Addr
  d_rows_pair : FuncData
  F_rows_pair : Fun K "rows_pair" "rows_pair" s_rows_pair a_rows_pair d_rows_pair
  b_rows_pair : Binds K d_rows_pair ["predicate", "rows"] []
  g_rows_pair : mg "rows_pair" = some (.ref a_rows_pair)
  a_stream : Addr
  d_stream : FuncData
  F_stream : Fun K "_law_stream" "_law_stream" s__law_stream a_stream d_stream
  b_stream : Binds K d_stream ["_law_script"] []
  g_stream : mg "_law_stream" = some (.ref a_stream)
  a_draw : Addr
  d_draw : FuncData
  F_draw : Fun K "_law_draw" "_law_draw" s__law_draw a_draw d_draw
  b_draw : Binds K d_draw ["_law_stream_here", "_law_many"] []
  g_draw : mg "_law_draw" = some (.ref a_draw)
  a_number : Addr
  d_number : FuncData
  F_number : Fun K "_law_number" "_law_number" s__law_number a_number d_number
  b_number : Binds K d_number ["_law_stream_here", "_law_most"] []
  g_number : mg "_law_number" = some (.ref a_number)
  a_pool : Addr
  d_pool : FuncData
  F_pool : Fun K "_law_pool" "_law_pool" s__law_pool a_pool d_pool
  b_pool : Binds K d_pool ["_law_stream_here", "_law_wide"] []
  g_pool : mg "_law_pool" = some (.ref a_pool)
  a_row : Addr
  d_row : FuncData
  F_row : Fun K "_law_row" "_law_row" s__law_row a_row d_row
  b_row : Binds K d_row ["_law_stream_here", "_law_pool_here"] []
  g_row : mg "_law_row" = some (.ref a_row)
  a_leaf : Addr
  d_leaf : FuncData
  F_leaf : Fun K "_law_leaf" "_law_leaf" s__law_leaf a_leaf d_leaf
  b_leaf : Binds K d_leaf ["_law_stream_here", "_law_pool_here"] []
  g_leaf : mg "_law_leaf" = some (.ref a_leaf)
  a_recipe : Addr
  d_recipe : FuncData
  F_recipe : Fun K "_law_recipe" "_law_recipe" s__law_recipe a_recipe d_recipe
  b_recipe : Binds K d_recipe ["_law_stream_here", "_law_pool_here", "_law_most"] []
  g_recipe : mg "_law_recipe" = some (.ref a_recipe)
  a_built : Addr
  d_built : FuncData
  F_built : Fun K "_law_built" "_law_built" s__law_built a_built d_built
  b_built : Binds K d_built ["_law_steps"] []
  g_built : mg "_law_built" = some (.ref a_built)
  a_compared : Addr
  d_compared : FuncData
  F_compared : Fun K "_law_compared" "_law_compared" s__law_compared a_compared d_compared
  b_compared : Binds K d_compared ["_law_sign", "_law_value", "_law_number_here"] []
  g_compared : mg "_law_compared" = some (.ref a_compared)
  a_joined : Addr
  d_joined : FuncData
  F_joined : Fun K "_law_joined" "_law_joined" s__law_joined a_joined d_joined
  b_joined : Binds K d_joined ["_law_word", "_law_parts"] []
  g_joined : mg "_law_joined" = some (.ref a_joined)
  a_judged : Addr
  d_judged : FuncData
  F_judged : Fun K "_law_judged" "_law_judged" s__law_judged a_judged d_judged
  b_judged : Binds K d_judged ["_law_steps", "_law_row_here"] []
  g_judged : mg "_law_judged" = some (.ref a_judged)
  a_alike : Addr
  d_alike : FuncData
  F_alike : Fun K "_law_alike" "_law_alike" s__law_alike a_alike d_alike
  b_alike : Binds K d_alike ["_law_told", "_law_due"] []
  g_alike : mg "_law_alike" = some (.ref a_alike)
  a_rows_due : Addr
  d_rows_due : FuncData
  F_rows_due : Fun K "_law_rows_due" "_law_rows_due" s__law_rows_due a_rows_due d_rows_due
  b_rows_due : Binds K d_rows_due ["_law_steps", "_law_rows"] []
  g_rows_due : mg "_law_rows_due" = some (.ref a_rows_due)
  t_IN : Tok
  g_IN : mg "IN" = some (.int (2) t_IN)
  t_MAYBE : Tok
  g_MAYBE : mg "MAYBE" = some (.int (1) t_MAYBE)
  t_OUT : Tok
  g_OUT : mg "OUT" = some (.int (0) t_OUT)
  c_SIGNS : Addr
  g_SIGNS : mg "SIGNS" = some (.ref c_SIGNS)
  l_SIGNS : ∀ H : Hp, SqT K H c_SIGNS [.str "<", .str "<=", .str "=", .str "!=", .str ">=", .str ">"]
  z_abs : mg "abs" = none
  z_bool : mg "bool" = none
  z_int : mg "int" = none
  z_isinstance : mg "isinstance" = none
  z_len : mg "len" = none
  z_list : mg "list" = none
  z_range : mg "range" = none
  z_reversed : mg "reversed" = none
  z_str : mg "str" = none
  z_tuple : mg "tuple" = none
/-! ### the law's stream of numbers -/
/-- at S the law's stream: the copy of the script at L, a place, a number, how many draws it still gives -/
structure Strm (S L : Addr) (ns : List Int) (H : Hp) : Prop where
  at_ : ∃ (p : Nat) (n k : Int), H S = some (.lst [.ref L, .int p, .int n, .int k]) ∧ p ≤ ns.length ∧ 0 ≤ n ∧ 0 ≤ k
  lst : H L = some (.lst (ns.map V.int))
  ne : L ≠ S
  len : ns.length ≤ 63
theorem strm_at {S L : Addr} {ns : List Int} {H : Hp} {q n c : Int} (eL : H L = some (.lst (ns.map V.int))) (ne : L ≠ S) (hl : ns.length ≤ 63) (h0 : 0 ≤ q) (h1 : q ≤ ns.length) (hn : 0 ≤ n) (hc : 0 ≤ c) : Strm S L ns (upd H S (.lst [.ref L, .int q, .int n, .int c])) :=
  ⟨⟨q.toNat, n, c, by rw [upd_same, Int.toNat_of_nonneg h0], by omega, hn, hc⟩, by rw [upd_ne ne]; exact eL, ne, hl⟩
theorem Strm.new {S L : Addr} {ns : List Int} {H : Hp} {p : Addr} {o : HO} (s : Strm S L ns H) (h : H p = none) : Strm S L ns (upd H p o) := by
  obtain ⟨⟨a, b, c, e, z⟩, l, n, q⟩ := s
  exact ⟨⟨a, b, c, by rw [upd_ne (ne_of_none e h)]; exact e, z⟩, by rw [upd_ne (ne_of_none l h)]; exact l, n, q⟩
theorem Strm.upd {S L : Addr} {ns : List Int} {H : Hp} {p : Addr} {o : HO} (s : Strm S L ns H) (h1 : p ≠ S) (h2 : p ≠ L) : Strm S L ns (upd H p o) := by
  obtain ⟨⟨a, b, c, e, z⟩, l, n, q⟩ := s
  exact ⟨⟨a, b, c, by rw [upd_ne h1.symm]; exact e, z⟩, by rw [upd_ne h2.symm]; exact l, n, q⟩
theorem Strm.same {S L : Addr} {ns : List Int} {H H' : Hp} (s : Strm S L ns H) (h : Same H H') : Strm S L ns H' := by
  obtain ⟨⟨a, b, c, e, z⟩, l, n, q⟩ := s
  exact ⟨⟨a, b, c, h _ _ e, z⟩, h _ _ l, n, q⟩
theorem Strm.neS {S L : Addr} {ns : List Int} {H : Hp} {p : Addr} (s : Strm S L ns H) (h : H p = none) : p ≠ S := by
  obtain ⟨⟨a, b, c, e, z⟩, l, n, q⟩ := s
  exact (ne_of_none e h).symm
theorem Strm.neL {S L : Addr} {ns : List Int} {H : Hp} {p : Addr} (s : Strm S L ns H) (h : H p = none) : p ≠ L := by
  obtain ⟨⟨a, b, c, e, z⟩, l, n, q⟩ := s
  exact (ne_of_none l h).symm
def spStream (K : PySem.W.Frag) : Sp := fun vs H Q _ => ∃ (a : Addr) (ns : List Int), vs = [.ref a] ∧ SqL K H a (ns.map V.int) ∧ ns.length ≤ 63 ∧ ∀ S L H', H S = none → Same H H' → Strm S L ns H' → Q (.ref S) H'
def spDraw : Sp := fun vs H Q _ => ∃ (S L : Addr) (ns : List Int) (m : Int), vs = [.ref S, .int m] ∧ Strm S L ns H ∧ 0 < m ∧ m.natAbs < 2 ^ 200 ∧ ∀ r H', 0 ≤ r → r < m → Ex S H H' → Strm S L ns H' → Q (.int r) H'
theorem use_draw {S L : Addr} {ns : List Int} {m : Int} {H : Hp} {Q : VK} {E : XK} (s : Strm S L ns H) (h0 : 0 < m) (h1 : m < 10 ^ 40) (k : ∀ r H', 0 ≤ r → r < m → Ex S H H' → Strm S L ns H' → Q (.int r) H') : spDraw [.ref S, .int m] H Q E :=
  ⟨S, L, ns, m, rfl, s, h0, by omega, k⟩
section
variable {P : Program} {w : World} {K : PySem.W.Frag} {mg : Str → Option Value} {base : Heap}
theorem ok_stream (T : Txt K mg) : FnOk P w K mg base CX0 1 T.a_stream T.d_stream ["_law_script"] (spStream K) := by
  refine T.F_stream.ok sc__law_stream (fun vs H Q E h => ?_) (fun cdv A outer s H vs Q E hr h => ⟨_, (pss_one (ps_ret (pe_lst (pa_cons (pe_callTy call_list_of (by rfl) T.z_list (by decide +kernel) (pa_cons (pv 0) pa_nil)) (pa_cons pe_int (pa_cons pe_int (pa_cons pe_int pa_nil))))))), ?_⟩)
  · first | (obtain ⟨rfl, _⟩ := h; rfl) | (obtain ⟨_, rfl, _⟩ := h; rfl) | (obtain ⟨_, _, rfl, _⟩ := h; rfl) | (obtain ⟨_, _, _, rfl, _⟩ := h; rfl) | (obtain ⟨_, _, _, _, rfl, _⟩ := h; rfl) | (obtain ⟨_, _, _, _, _, rfl, _⟩ := h; rfl) | (obtain ⟨_, _, _, _, _, _, rfl, _⟩ := h; rfl) | (obtain ⟨_, _, _, _, _, _, _, rfl, _⟩ := h; rfl) | (obtain ⟨_, _, _, _, _, _, _, _, rfl, _⟩ := h; rfl) | (obtain ⟨_, _, _, _, _, _, _, _, _, rfl, _⟩ := h; rfl) | (obtain ⟨_, _, _, _, _, _, _, _, _, _, rfl, _⟩ := h; rfl) | (obtain ⟨_, _, _, _, _, _, _, _, _, _, _, rfl, _⟩ := h; rfl) | (obtain ⟨_, _, _, _, _, _, _, _, _, _, _, _, rfl, _⟩ := h; rfl) | (obtain ⟨_, _, _, _, _, _, _, _, _, _, _, _, _, rfl, _⟩ := h; rfl) | (obtain ⟨_, _, _, _, _, _, _, _, _, _, _, _, _, _, rfl, _⟩ := h; rfl)
  · obtain ⟨a, ns, rfl, hS, hl, k⟩ := h
    try dsimp only [cxOf, Cx.nox, Cx.wish]
    refine st_of (σ := [some _]) rfl ?_
    walk_at "rd"
    intro L hL
    walk_at "rd"
    intro S hs
    have hs' : H S = none := by
      by_cases e : S = L
      · rw [e, upd_same] at hs
        cases hs
      · rw [upd_ne e] at hs
        exact hs
    refine k S L _ hs' (by walk_at "sm") ⟨⟨0, 0, 0, upd_same, Nat.zero_le _, Int.le_refl _, Int.le_refl _⟩, ?_, ?_, hl⟩
    · have e : L ≠ S := ne_of_none upd_same hs
      rw [upd_ne e]
      exact upd_same
    · exact ne_of_none upd_same hs
theorem ok_draw (T : Txt K mg) : FnOk P w K mg base CX0 1 T.a_draw T.d_draw ["_law_stream_here", "_law_many"] (spDraw) := by
  refine T.F_draw.ok sc__law_draw (fun vs H Q E h => ?_) (fun cdv A outer s H vs Q E hr h => ⟨_, (Evl.pss_cut (ps_if (PW.pt (pw_and (PW.pt (pw_or (pt_cmpR op_eq (pe_ix ix_list (pv 0) pe_int (fun _ _ => rfl)) pe_int (nomark _)) (pw_or1 (pt_cmpR op_eq (pe_ix ix_list (pv 0) pe_int (fun _ _ => rfl)) pe_int (nomark _))))) (pw_and1 (pt_cmpR op_lt (pe_ix ix_list (pv 0) pe_int (fun _ _ => rfl)) (pe_callB call_len_seq (by rfl) T.z_len PySem.boot_len (pa_cons (pe_ix ix_list (pv 0) pe_int (fun _ _ => rfl)) pa_nil)) (nomark _)))))
      (pss_cons (ps_set (i := 2) sc__law_draw.nd rfl (.inl rfl) (pe_ix ix_list (pv 0) pe_int (fun _ _ => rfl)))
      (pss_cons (ps_set (i := 3) sc__law_draw.nd rfl (.inl rfl) (pe_ix ix_list (pe_ix ix_list (pv 0) pe_int (fun _ _ => rfl)) (pv 2) (fun _ _ => rfl)))
      (pss_cons (ps_set (i := 4) sc__law_draw.nd rfl (.inl rfl) (pe_op op_add (pe_op op_mul pe_int (pe_callB call_abs (by rfl) T.z_abs (by decide +kernel) (pa_cons (pv 3) pa_nil))) (pe_callTy call_int1 (by rfl) T.z_int (by decide +kernel) (pa_cons (pe_cmpR op_lt (pv 3) pe_int (nomark _)) pa_nil))))
      (pss_cons (ps_if (pt_cmpR op_lt (pv 4) (pe_op op_mul pe_int (pe_op op_pow pe_int pe_int)) (nomark _))
      (pss_cons (ps_set (i := 4) sc__law_draw.nd rfl (.inl rfl) (pe_op op_mod (pe_callTy call_int1 (by rfl) T.z_int (by decide +kernel) (pa_cons (pe_op op_add (pe_op op_mul (pv 4) pe_int) (pe_op op_mul (pe_op op_add (pe_op op_mul (pv 2) (pv 2)) pe_int) pe_int)) pa_nil)) pe_int))
      (pss_one (ps_set (i := 4) sc__law_draw.nd rfl (.inl rfl) (pe_op op_mod (pe_callTy call_int1 (by rfl) T.z_int (by decide +kernel) (pa_cons (pe_op op_add (pe_op op_add (pe_op op_mul (pe_op op_mul (pv 4) (pv 4)) pe_int) (pe_op op_mul (pv 4) pe_int)) pe_int) pa_nil)) pe_int))))
      pss_nil)
      (pss_cons (ps_asg (pe_op op_add (pv 2) pe_int) (pg_sub (pv 0) pe_int set_list))
      (pss_cons (ps_asg (pv 4) (pg_sub (pv 0) pe_int set_list))
      (pss_one (ps_asg pe_int (pg_sub (pv 0) pe_int set_list)))))))))
      pss_nil)
      (pss_cons (ps_if (pt_cmpR op_eq (pe_ix ix_list (pv 0) pe_int (fun _ _ => rfl)) pe_int (nomark _))
      (pss_one (ps_ret pe_int))
      pss_nil)
      (pss_cons (ps_set (i := 4) sc__law_draw.nd rfl (.inl rfl) (pe_ix ix_list (pv 0) pe_int (fun _ _ => rfl)))
      (pss_cons (ps_asg (pe_op op_fdivW (pv 4) (pv 1)) (pg_sub (pv 0) pe_int set_list))
      (pss_cons (ps_asg (pe_op op_sub (pe_ix ix_list (pv 0) pe_int (fun _ _ => rfl)) pe_int) (pg_sub (pv 0) pe_int set_list))
      (pss_one (ps_ret (pe_op op_mod (pe_callTy call_int1 (by rfl) T.z_int (by decide +kernel) (pa_cons (pv 4) pa_nil)) (pv 1))))))))), ?_⟩)
  · first | (obtain ⟨rfl, _⟩ := h; rfl) | (obtain ⟨_, rfl, _⟩ := h; rfl) | (obtain ⟨_, _, rfl, _⟩ := h; rfl) | (obtain ⟨_, _, _, rfl, _⟩ := h; rfl) | (obtain ⟨_, _, _, _, rfl, _⟩ := h; rfl) | (obtain ⟨_, _, _, _, _, rfl, _⟩ := h; rfl) | (obtain ⟨_, _, _, _, _, _, rfl, _⟩ := h; rfl) | (obtain ⟨_, _, _, _, _, _, _, rfl, _⟩ := h; rfl) | (obtain ⟨_, _, _, _, _, _, _, _, rfl, _⟩ := h; rfl) | (obtain ⟨_, _, _, _, _, _, _, _, _, rfl, _⟩ := h; rfl) | (obtain ⟨_, _, _, _, _, _, _, _, _, _, rfl, _⟩ := h; rfl) | (obtain ⟨_, _, _, _, _, _, _, _, _, _, _, rfl, _⟩ := h; rfl) | (obtain ⟨_, _, _, _, _, _, _, _, _, _, _, _, rfl, _⟩ := h; rfl) | (obtain ⟨_, _, _, _, _, _, _, _, _, _, _, _, _, rfl, _⟩ := h; rfl) | (obtain ⟨_, _, _, _, _, _, _, _, _, _, _, _, _, _, rfl, _⟩ := h; rfl)
  · obtain ⟨S, L, ns, m, rfl, hS, h0, h1, k⟩ := h
    try dsimp only [cxOf, Cx.nox, Cx.wish]
    refine st_of (σ := [some _, some _, none, none, none]) rfl ?_
    obtain ⟨⟨p, n, c, eS, hp, hn, hc⟩, eL, ne, hl⟩ := hS
    have hm : CDivW n m := wide_div h0 h1 (by decide) (by decide)
    refine ⟨fun σ' H' => ∃ x y z, σ' = [some (.ref S), some (.int m), x, y, z] ∧ Ex S H H' ∧ Strm S L ns H', ?_, ?_⟩
    · walk_at "rd"
      have key : ∀ H', Ex S H H' → Strm S L ns H' → (∃ x y z, [some (V.ref S), some (V.int m), none, none, none] = [some (V.ref S), some (V.int m), x, y, z] ∧ Ex S H H' ∧ Strm S L ns H') := fun H' a b => ⟨_, _, _, rfl, a, b⟩
      refine i_d (p := n = 0) (fun hz => ?_) (fun hz => ?_)
      · walk_at "rd"
        refine i_d (fun hl2 => ?_) (fun hl2 => ?_)
        · rw [List.length_map] at hl2
          have hlt : p < ns.length := by omega
          walk_at "rd"
          refine r_ixL (sql eL) (atI_nat (map_at hlt)) ?_
          generalize ns[p] = z
          walk_at "rd"
          refine i_d (fun hb => ?_) (fun hb => ?_)
          · walk_at "rd"
            exact ⟨_, _, _, rfl, Ex.at (Ex.refl _ _), strm_at eL ne hl (by omega) (by omega) (Int.emod_nonneg _ (by decide)) (by decide)⟩
          · walk_at "rd"
            exact ⟨_, _, _, rfl, Ex.at (Ex.refl _ _), strm_at eL ne hl (by omega) (by omega) (by split <;> split <;> omega) (by decide)⟩
        · walk_at "rd"
          exact key H (Ex.refl _ _) ⟨⟨p, n, c, eS, hp, hn, hc⟩, eL, ne, hl⟩
      · walk_at "rd"
        refine i_d (p := c = 0) (fun hz => ?_) (fun hz => ?_)
        · walk_at "rd"
          refine i_d (fun hl2 => ?_) (fun hl2 => ?_)
          · rw [List.length_map] at hl2
            have hlt : p < ns.length := by omega
            walk_at "rd"
            refine r_ixL (sql eL) (atI_nat (map_at hlt)) ?_
            generalize ns[p] = z
            walk_at "rd"
            refine i_d (fun hb => ?_) (fun hb => ?_)
            · walk_at "rd"
              exact ⟨_, _, _, rfl, Ex.at (Ex.refl _ _), strm_at eL ne hl (by omega) (by omega) (Int.emod_nonneg _ (by decide)) (by decide)⟩
            · walk_at "rd"
              exact ⟨_, _, _, rfl, Ex.at (Ex.refl _ _), strm_at eL ne hl (by omega) (by omega) (by split <;> split <;> omega) (by decide)⟩
          · walk_at "rd"
            exact key H (Ex.refl _ _) ⟨⟨p, n, c, eS, hp, hn, hc⟩, eL, ne, hl⟩
        · walk_at "rd"
          exact key H (Ex.refl _ _) ⟨⟨p, n, c, eS, hp, hn, hc⟩, eL, ne, hl⟩
    · rintro σ' H' ⟨x, y, z, rfl, ex, ⟨⟨p, n, c, eS, hp, hn, hc⟩, eL, ne, hl⟩⟩
      have hm : CDivW n m := wide_div h0 h1 (by decide) (by decide)
      walk_at "rd"
      refine i_d (p := c = 0) (fun hz => ?_) (fun hz => ?_)
      · walk_at "rd"
        exact k 0 H' (Int.le_refl _) h0 ex ⟨⟨p, n, c, eS, hp, hn, hc⟩, eL, ne, hl⟩
      · walk_at "rd"
        exact k _ _ (Int.emod_nonneg _ (by omega)) (Int.emod_lt_of_pos _ h0) (Ex.at ex) (strm_at eL ne hl (by omega) (by omega) (Int.ediv_nonneg hn (by omega)) (by omega))
end

/-! ### what is alike -/
mutual
/-- x and y are alike in H; n: how many looks that takes -/
inductive Al (K : PySem.W.Frag) (H : Hp) : V → V → Nat → Prop where
  | non : Al K H .non .non 1
  | bl (b : Bool) : Al K H (.bl b) (.bl b) 1
  | int (i : Int) : Al K H (.int i) (.int i) 1
  | str (s : Str) : Al K H (.str s) (.str s) 1
  | lst {a b : Addr} {xs ys : List V} {n : Nat} (h1 : SqL K H a xs) (h2 : SqL K H b ys) (h : Als K H xs ys n) : Al K H (.ref a) (.ref b) (n + 1)
  | tup {a b : Addr} {xs ys : List V} {n : Nat} (h1 : SqT K H a xs) (h2 : SqT K H b ys) (h : Als K H xs ys n) : Al K H (.ref a) (.ref b) (n + 1)
inductive Als (K : PySem.W.Frag) (H : Hp) : List V → List V → Nat → Prop where
  | nil : Als K H [] [] 0
  | cons {x y : V} {xs ys : List V} {n m : Nat} (h : Al K H x y n) (t : Als K H xs ys m) : Als K H (x :: xs) (y :: ys) (n + m)
end
section
variable {K : PySem.W.Frag} {H H' : Hp}
theorem Al.same {x y : V} {n : Nat} (h : Al K H x y n) (e : Same H H') : Al K H' x y n :=
  h.rec (motive_1 := fun x y n _ => Al K H' x y n) (motive_2 := fun xs ys n _ => Als K H' xs ys n) .non .bl .int .str (fun h1 h2 _ ih => .lst (e.seq h1) (e.seq h2) ih) (fun h1 h2 _ ih => .tup (same_tup e h1) (same_tup e h2) ih) .nil (fun _ _ a b => .cons a b)
theorem Als.same {xs ys : List V} {n : Nat} (h : Als K H xs ys n) (e : Same H H') : Als K H' xs ys n :=
  h.rec (motive_1 := fun x y n _ => Al K H' x y n) (motive_2 := fun xs ys n _ => Als K H' xs ys n) .non .bl .int .str (fun h1 h2 _ ih => .lst (e.seq h1) (e.seq h2) ih) (fun h1 h2 _ ih => .tup (same_tup e h1) (same_tup e h2) ih) .nil (fun _ _ a b => .cons a b)
theorem Als.len {xs ys : List V} {n : Nat} (h : Als K H xs ys n) : xs.length = ys.length :=
  h.rec (motive_1 := fun _ _ _ _ => True) (motive_2 := fun xs ys _ _ => xs.length = ys.length) trivial (fun _ => trivial) (fun _ => trivial) (fun _ => trivial) (fun _ _ _ _ => trivial) (fun _ _ _ _ => trivial) rfl (fun _ _ _ b => congrArg (· + 1) b)
theorem Als.app {xs ys us ws : List V} {n m : Nat} (h : Als K H xs ys n) (g : Als K H us ws m) : Als K H (xs ++ us) (ys ++ ws) (n + m) :=
  h.rec (motive_1 := fun _ _ _ _ => True) (motive_2 := fun xs ys n _ => Als K H (xs ++ us) (ys ++ ws) (n + m)) trivial (fun _ => trivial) (fun _ => trivial) (fun _ => trivial) (fun _ _ _ _ => trivial) (fun _ _ _ _ => trivial)
    (by rw [Nat.zero_add]; exact g) (fun a _ _ b => by rw [Nat.add_assoc]; exact .cons a b)
theorem Als.last {xs ys : List V} {x y : V} : ∀ {n : Nat}, Als K H (xs ++ [x]) (ys ++ [y]) n → xs.length = ys.length → ∃ m k, n = m + k ∧ Als K H xs ys m ∧ Al K H x y k := by
  induction xs generalizing ys with
  | nil =>
    intro n h hl
    cases ys with
    | cons _ _ => cases hl
    | nil =>
      cases h with
      | cons a t =>
        cases t
        exact ⟨0, _, by omega, .nil, a⟩
  | cons u us ih =>
    intro n h hl
    cases ys with
    | nil => cases hl
    | cons w ws =>
      cases h with
      | cons a t =>
        obtain ⟨m, k, e, t', l⟩ := ih t (by simpa using hl)
        exact ⟨_, k, by rw [e, Nat.add_assoc], .cons a t', l⟩
theorem Al.posI {x y : V} {n : Nat} (h : Al K H x y n) : 0 < n := by
  cases h <;> omega
theorem Als.le {xs ys : List V} {n : Nat} (h : Als K H xs ys n) : ys.length ≤ n :=
  h.rec (motive_1 := fun _ _ n _ => 0 < n) (motive_2 := fun _ ys n _ => ys.length ≤ n) (by decide) (fun _ => by decide) (fun _ => by decide) (fun _ => by decide) (fun _ _ _ _ => Nat.succ_pos _) (fun _ _ _ _ => Nat.succ_pos _) (Nat.le_refl _)
    (fun _ _ a b => by rw [List.length_cons]; omega)
theorem Al.pos {x y : V} {n : Nat} (h : Al K H x y n) : 0 < n := by
  cases h <;> omega
theorem Als.get {xs ys : List V} : ∀ {n : Nat} (i : Nat), Als K H xs ys n → i < xs.length → ∃ x y, xs[i]? = some x ∧ ys[i]? = some y := by
  intro n i h hi
  have e := h.len
  exact ⟨xs[i], ys[i]'(by omega), List.getElem?_eq_getElem hi, List.getElem?_eq_getElem (by omega)⟩
theorem Als.ints : ∀ ns : List Int, Als K H (ns.map V.int) (ns.map V.int) ns.length
  | [] => .nil
  | n :: r => by
    rw [List.length_cons, Nat.add_comm]
    exact .cons (.int n) (Als.ints r)
theorem Als.bls : ∀ ns : List Bool, Als K H (ns.map V.bl) (ns.map V.bl) ns.length
  | [] => .nil
  | n :: r => by
    rw [List.length_cons, Nat.add_comm]
    exact .cons (.bl n) (Als.bls r)
/-- the pairs that stand on the stack at l -/
inductive Prs (l : Addr) (H : Hp) : List V → List V → List V → Prop where
  | nil : Prs l H [] [] []
  | cons {p : Addr} {x y : V} {vs xs ys : List V} (h : H p = some (.lst [x, y])) (n : p ≠ l) (t : Prs l H vs xs ys) : Prs l H (.ref p :: vs) (x :: xs) (y :: ys)
theorem Prs.keep {l : Addr} {vs xs ys : List V} (h : Prs l H vs xs ys) (e : ∀ p o, p ≠ l → H p = some o → H' p = some o) : Prs l H' vs xs ys := by
  induction h with
  | nil => exact .nil
  | cons h n _ ih => exact .cons (e _ _ n h) n ih
theorem Prs.len {l : Addr} {vs xs ys : List V} (h : Prs l H vs xs ys) : vs.length = xs.length ∧ xs.length = ys.length := by
  induction h with
  | nil => exact ⟨rfl, rfl⟩
  | cons h n _ ih => exact ⟨congrArg (· + 1) ih.1, congrArg (· + 1) ih.2⟩
theorem Prs.app {l p : Addr} {x y : V} {vs xs ys : List V} (h : Prs l H vs xs ys) (hp : H p = some (.lst [x, y])) (n : p ≠ l) : Prs l H (vs ++ [.ref p]) (xs ++ [x]) (ys ++ [y]) := by
  induction h with
  | nil => exact .cons hp n .nil
  | cons h m _ ih => exact .cons h m ih
theorem Prs.last {l : Addr} {v x y : V} : ∀ {vs xs ys : List V}, Prs l H (vs ++ [v]) (xs ++ [x]) (ys ++ [y]) → vs.length = xs.length → xs.length = ys.length → ∃ p, v = .ref p ∧ H p = some (.lst [x, y]) ∧ p ≠ l ∧ Prs l H vs xs ys := by
  intro vs
  induction vs with
  | nil =>
    intro xs ys h h1 h2
    cases xs with
    | cons _ _ => cases h1
    | nil =>
      cases ys with
      | cons _ _ => cases h2
      | nil =>
        cases h with
        | cons h n t => exact ⟨_, rfl, h, n, .nil⟩
  | cons w ws ih =>
    intro xs ys h h1 h2
    cases xs with
    | nil => cases h1
    | cons u us =>
      cases ys with
      | nil => cases h2
      | cons z zs =>
        cases h with
        | cons h n t =>
          obtain ⟨p, e, hp, n', t'⟩ := ih t (by simpa using h1) (by simpa using h2)
          exact ⟨p, e, hp, n', .cons h n t'⟩
theorem snoc {l : List V} (h : l.length ≠ 0) : ∃ r v, l = r ++ [v] := by
  rcases List.eq_nil_or_concat l with e | ⟨r, v, e⟩
  · subst e
    exact absurd rfl h
  · exact ⟨r, v, by simpa using e⟩
/-! isinstance -/
theorem ty_lst {a : Addr} {xs : List V} (h : SqL K H a xs) : TyX K H (.ref a) (.type "list") := by
  rcases h with (h | ⟨o, h⟩) | ⟨o, _, _, h, c, _⟩
  · exact .base (.lst h)
  · exact .base (.frz h)
  · exact .kList h c
theorem ty_tup {a : Addr} {xs : List V} (h : SqT K H a xs) : TyX K H (.ref a) (.type "tuple") := by
  rcases h with (h | ⟨o, h⟩) | ⟨o, _, _, h, c, _⟩
  · exact .base (.tup h)
  · exact .fTuple h
  · exact .kTuple h c
theorem kit2 {t : String} {b : Bool} (h1 : kitB t "list" = some b) (h2 : b = true ∨ kitB t "tuple" = some false) : PySem.W.kitAny K (.type t) [.type "list", .type "tuple"] = some b := by
  refine kitAny_cons (kit_ty h1) (fun e => ?_) (fun e => e)
  subst e
  rcases h2 with h | h
  · cases h
  · exact kitAny_cons (kit_ty h) (fun _ => rfl) (fun e => e)
theorem kit2t {t : String} (h1 : kitB t "list" = some false) (h2 : kitB t "tuple" = some true) : PySem.W.kitAny K (.type t) [.type "list", .type "tuple"] = some true :=
  kitAny_cons (kit_ty h1) (fun _ => kitAny_cons (kit_ty h2) (fun e => nomatch e) (fun e => e)) (fun e => nomatch e)
theorem r_isi2 {x : V} {tp : Addr} {t : Value} {b : Bool} {Q : VK} (hT : H tp = some (.tup [.ty "list", .ty "tuple"])) (ty : TyX K H x t) (e : PySem.W.kitAny K t [.type "list", .type "tuple"] = some b) (q : Q (.bl b) H) : rIsiT K [x, .ref tp] H Q :=
  ⟨x, tp, _, t, _, b, rfl, hT, .cons (.ty _) (.cons (.ty _) .nil), ty, e, q⟩
theorem r_isi {x : V} {t c : String} {b : Bool} {Q : VK} (ty : TyX K H x (.type t)) (e : kitB t c = some b) (q : Q (.bl b) H) : rIsi K [x, .ty c] H Q :=
  ⟨x, _, _, _, b, rfl, .ty _, ty, kit_ty e, q⟩
theorem two_lst {x : V} {tp a : Addr} {xs : List V} {Q : VK} (hT : H tp = some (.tup [.ty "list", .ty "tuple"])) (h : SqL K H a xs) (q : Q (.bl true) H) : rIsiT K [.ref a, .ref tp] H Q := r_isi2 hT (ty_lst h) (kit2 (by decide +kernel) (.inl rfl)) q
theorem two_tup {x : V} {tp a : Addr} {xs : List V} {Q : VK} (hT : H tp = some (.tup [.ty "list", .ty "tuple"])) (h : SqT K H a xs) (q : Q (.bl true) H) : rIsiT K [.ref a, .ref tp] H Q := r_isi2 hT (ty_tup h) (kit2t (by decide +kernel) (by decide +kernel)) q
theorem two_non {tp : Addr} {Q : VK} (hT : H tp = some (.tup [.ty "list", .ty "tuple"])) (q : Q (.bl false) H) : rIsiT K [.non, .ref tp] H Q := r_isi2 hT (.base .non) (kit2 (by decide +kernel) (.inr (by decide +kernel))) q
theorem two_bl {tp : Addr} {b : Bool} {Q : VK} (hT : H tp = some (.tup [.ty "list", .ty "tuple"])) (q : Q (.bl false) H) : rIsiT K [.bl b, .ref tp] H Q := r_isi2 hT (.base (.bl b)) (kit2 (by decide +kernel) (.inr (by decide +kernel))) q
theorem two_int {tp : Addr} {b : Int} {Q : VK} (hT : H tp = some (.tup [.ty "list", .ty "tuple"])) (q : Q (.bl false) H) : rIsiT K [.int b, .ref tp] H Q := r_isi2 hT (.base (.int b)) (kit2 (by decide +kernel) (.inr (by decide +kernel))) q
theorem two_str {tp : Addr} {b : Str} {Q : VK} (hT : H tp = some (.tup [.ty "list", .ty "tuple"])) (q : Q (.bl false) H) : rIsiT K [.str b, .ref tp] H Q := r_isi2 hT (.base (.str b)) (kit2 (by decide +kernel) (.inr (by decide +kernel))) q
end
def spAlike (K : PySem.W.Frag) : Sp := fun vs H Q _ => ∃ (x y : V) (n : Nat), vs = [x, y] ∧ Al K H x y n ∧ n < 6000 ∧ ∀ H', Same H H' → Q (.bl true) H'
theorem use_alike {K : PySem.W.Frag} {x y : V} {n : Nat} {H : Hp} {Q : VK} {E : XK} (h : Al K H x y n) (hn : n < 6000) (k : ∀ H', Same H H' → Q (.bl true) H') : spAlike K [x, y] H Q E := ⟨x, y, n, rfl, h, hn, k⟩
section
variable {P : Program} {w : World} {K : PySem.W.Frag} {mg : Str → Option Value} {base : Heap}
local macro_rules | `(tactic| walk_at "isi") => `(tactic| first
  | ((with_reducible show rIsiT _ [V.non, _] _ _); refine two_non (by walk_at "hp") ?_)
  | ((with_reducible show rIsiT _ [V.bl _, _] _ _); refine two_bl (by walk_at "hp") ?_)
  | ((with_reducible show rIsiT _ [V.int _, _] _ _); refine two_int (by walk_at "hp") ?_)
  | ((with_reducible show rIsiT _ [V.str _, _] _ _); refine two_str (by walk_at "hp") ?_)
  | ((with_reducible show rIsiT _ [V.ref _, _] _ _); first | refine two_lst (x := .non) (by walk_at "hp") (by walk_at "sa") ?_ | refine two_tup (x := .non) (by walk_at "hp") (by walk_at "sa") ?_)
  | ((with_reducible show rIsi _ [V.non, _] _ _); first | refine r_isi (b := true) (.base .non) (by decide +kernel) ?_ | refine r_isi (b := false) (.base .non) (by decide +kernel) ?_)
  | ((with_reducible show rIsi _ [V.bl _, _] _ _); first | refine r_isi (b := true) (.base (.bl _)) (by decide +kernel) ?_ | refine r_isi (b := false) (.base (.bl _)) (by decide +kernel) ?_)
  | ((with_reducible show rIsi _ [V.int _, _] _ _); first | refine r_isi (b := true) (.base (.int _)) (by decide +kernel) ?_ | refine r_isi (b := false) (.base (.int _)) (by decide +kernel) ?_)
  | ((with_reducible show rIsi _ [V.str _, _] _ _); first | refine r_isi (b := true) (.base (.str _)) (by decide +kernel) ?_ | refine r_isi (b := false) (.base (.str _)) (by decide +kernel) ?_)
  | ((with_reducible show rIsi _ [V.ref _, _] _ _); first | first | refine r_isi (b := true) (ty_lst (by walk_at "sa")) (by decide +kernel) ?_ | refine r_isi (b := false) (ty_lst (by walk_at "sa")) (by decide +kernel) ?_ | first | refine r_isi (b := true) (ty_tup (by walk_at "sa")) (by decide +kernel) ?_ | refine r_isi (b := false) (ty_tup (by walk_at "sa")) (by decide +kernel) ?_))
local macro_rules | `(tactic| walk_at "go") => `(tactic| repeat (first | walk_at "rd1" | walk_at "tf" | walk_at "isi" | ((with_reducible show ∀ _ : Addr, _ = none → _); intro _ _)))
theorem ok_alike (T : Txt K mg) : FnOk P w K mg base CX0 1 T.a_alike T.d_alike ["_law_told", "_law_due"] (spAlike K) := by
  refine T.F_alike.ok sc__law_alike (fun vs H Q E h => ?_) (fun cdv A outer s H vs Q E hr h => ⟨_, (pss_cons (ps_set (i := 2) sc__law_alike.nd rfl (.inl rfl) (pe_lst (pa_cons (pe_lst (pa_cons (pv 0) (pa_cons (pv 1) pa_nil))) pa_nil)))
      (pss_cons (ps_for PassesOwn.never rfl (pi_range1 (by rfl) T.z_range (pa_cons pe_int pa_nil)) (pg_name (i := 3) sc__law_alike.nd rfl (.inl rfl))
      (pss_cons (ps_if (pt_cmpR op_eq (pe_callB call_len_seq (by rfl) T.z_len PySem.boot_len (pa_cons (pv 2) pa_nil)) pe_int (nomark _))
      (pss_one (ps_ret pe_bl))
      pss_nil)
      (pss_cons (ps_set (i := 4) sc__law_alike.nd rfl (.inl rfl) (pe_bm0 PySem.F.plainAttrs_list PySem.F.slot_list_pop PySem.F.type_list_pop mt_pop (pv 2)))
      (pss_cons (ps_set (i := 5) sc__law_alike.nd rfl (.inl rfl) (pe_ix ix_list (pv 4) pe_int (fun _ _ => rfl)))
      (pss_cons (ps_set (i := 6) sc__law_alike.nd rfl (.inl rfl) (pe_ix ix_list (pv 4) pe_int (fun _ _ => rfl)))
      (pss_one (ps_if (pt_val (pe_callB call_isiT (by rfl) T.z_isinstance (by decide +kernel) (pa_cons (pv 6) (pa_cons (pe_tup (pa_cons (pe_bltn (v := .ty "list") (by rfl) T.z_list (by decide +kernel) rfl) (pa_cons (pe_bltn (v := .ty "tuple") (by rfl) T.z_tuple (by decide +kernel) rfl) pa_nil))) pa_nil))))
      (pss_cons (ps_if (PW.pt (pw_or (pt_not (pt_val (pe_callB call_isiT (by rfl) T.z_isinstance (by decide +kernel) (pa_cons (pv 5) (pa_cons (pe_tup (pa_cons (pe_bltn (v := .ty "list") (by rfl) T.z_list (by decide +kernel) rfl) (pa_cons (pe_bltn (v := .ty "tuple") (by rfl) T.z_tuple (by decide +kernel) rfl) pa_nil))) pa_nil))))) (pw_or1 (pt_cmpR op_ne (pe_callB call_isi (by rfl) T.z_isinstance (by decide +kernel) (pa_cons (pv 5) (pa_cons (pe_bltn (v := .ty "list") (by rfl) T.z_list (by decide +kernel) rfl) pa_nil))) (pe_callB call_isi (by rfl) T.z_isinstance (by decide +kernel) (pa_cons (pv 6) (pa_cons (pe_bltn (v := .ty "list") (by rfl) T.z_list (by decide +kernel) rfl) pa_nil))) (nomark _)))))
      (pss_one (ps_ret pe_bl))
      pss_nil)
      (pss_cons (ps_if (pt_cmpR op_ne (pe_callB call_len_seq (by rfl) T.z_len PySem.boot_len (pa_cons (pv 5) pa_nil)) (pe_callB call_len_seq (by rfl) T.z_len PySem.boot_len (pa_cons (pv 6) pa_nil)) (nomark _))
      (pss_one (ps_ret pe_bl))
      pss_nil)
      (pss_one (ps_for PassesOwn.never rfl (pi_range1 (by rfl) T.z_range (pa_cons (pe_callB call_len_seq (by rfl) T.z_len PySem.boot_len (pa_cons (pv 6) pa_nil)) pa_nil)) (pg_name (i := 7) sc__law_alike.nd rfl (.inl rfl))
      (pss_one (ps_expr (pe_bm PySem.F.plainAttrs_list PySem.F.slot_list_append PySem.F.type_list_append mt_append (pv 2) (pa_cons (pe_lst (pa_cons (pe_ix ix_seq (pv 5) (pv 7) (fun _ _ => rfl)) (pa_cons (pe_ix ix_seq (pv 6) (pv 7) (fun _ _ => rfl)) pa_nil))) pa_nil))))))))
      (pss_one (ps_if (pt_cmpR op_isN (pv 6) pe_non (nomark _))
      (pss_one (ps_if (pt_cmpR op_notN (pv 5) pe_non (nomark _))
      (pss_one (ps_ret pe_bl))
      pss_nil))
      (pss_one (ps_if (pt_val (pe_callB call_isi (by rfl) T.z_isinstance (by decide +kernel) (pa_cons (pv 6) (pa_cons (pe_bltn (v := .ty "bool") (by rfl) T.z_bool (by decide +kernel) rfl) pa_nil))))
      (pss_one (ps_if (PW.pt (pw_or (pt_not (pt_val (pe_callB call_isi (by rfl) T.z_isinstance (by decide +kernel) (pa_cons (pv 5) (pa_cons (pe_bltn (v := .ty "bool") (by rfl) T.z_bool (by decide +kernel) rfl) pa_nil))))) (pw_or1 (pt_cmpR op_ne (pv 5) (pv 6) (nomark _)))))
      (pss_one (ps_ret pe_bl))
      pss_nil))
      (pss_one (ps_if (pt_val (pe_callB call_isi (by rfl) T.z_isinstance (by decide +kernel) (pa_cons (pv 6) (pa_cons (pe_bltn (v := .ty "int") (by rfl) T.z_int (by decide +kernel) rfl) pa_nil))))
      (pss_one (ps_if (PW.pt (pw_or (pt_not (pt_val (pe_callB call_isi (by rfl) T.z_isinstance (by decide +kernel) (pa_cons (pv 5) (pa_cons (pe_bltn (v := .ty "int") (by rfl) T.z_int (by decide +kernel) rfl) pa_nil))))) (pw_or (pt_val (pe_callB call_isi (by rfl) T.z_isinstance (by decide +kernel) (pa_cons (pv 5) (pa_cons (pe_bltn (v := .ty "bool") (by rfl) T.z_bool (by decide +kernel) rfl) pa_nil)))) (pw_or1 (pt_cmpR op_ne (pv 5) (pv 6) (nomark _))))))
      (pss_one (ps_ret pe_bl))
      pss_nil))
      (pss_one (ps_if (PW.pt (pw_or (pt_not (pt_val (pe_callB call_isi (by rfl) T.z_isinstance (by decide +kernel) (pa_cons (pv 5) (pa_cons (pe_bltn (v := .ty "str") (by rfl) T.z_str (by decide +kernel) rfl) pa_nil))))) (pw_or1 (pt_cmpR op_ne (pv 5) (pv 6) (nomark _)))))
      (pss_one (ps_ret pe_bl))
      pss_nil)))))))))))))))
      (pss_one (ps_ret pe_bl)))), ?_⟩)
  · first | (obtain ⟨rfl, _⟩ := h; rfl) | (obtain ⟨_, rfl, _⟩ := h; rfl) | (obtain ⟨_, _, rfl, _⟩ := h; rfl) | (obtain ⟨_, _, _, rfl, _⟩ := h; rfl) | (obtain ⟨_, _, _, _, rfl, _⟩ := h; rfl) | (obtain ⟨_, _, _, _, _, rfl, _⟩ := h; rfl) | (obtain ⟨_, _, _, _, _, _, rfl, _⟩ := h; rfl) | (obtain ⟨_, _, _, _, _, _, _, rfl, _⟩ := h; rfl) | (obtain ⟨_, _, _, _, _, _, _, _, rfl, _⟩ := h; rfl) | (obtain ⟨_, _, _, _, _, _, _, _, _, rfl, _⟩ := h; rfl) | (obtain ⟨_, _, _, _, _, _, _, _, _, _, rfl, _⟩ := h; rfl) | (obtain ⟨_, _, _, _, _, _, _, _, _, _, _, rfl, _⟩ := h; rfl) | (obtain ⟨_, _, _, _, _, _, _, _, _, _, _, _, rfl, _⟩ := h; rfl) | (obtain ⟨_, _, _, _, _, _, _, _, _, _, _, _, _, rfl, _⟩ := h; rfl) | (obtain ⟨_, _, _, _, _, _, _, _, _, _, _, _, _, _, rfl, _⟩ := h; rfl)
  · obtain ⟨x, y, N, rfl, hA, hN, k⟩ := h
    try dsimp only [cxOf, Cx.nox, Cx.wish]
    refine st_of (σ := [some _, some _, none, none, none, none, none, none]) rfl ?_
    walk_at "rd"
    intro p hp
    walk_at "rd"
    intro l hl
    have npl : p ≠ l := ne_of_none upd_same hl
    have hl0 : H l = none := by
      rw [upd_ne npl.symm] at hl
      exact hl
    walk_at "rd"
    refine c_rng1 ?_
    walk_at "rd"
    refine ⟨by decide, by decide, for_range (lo := 0) (n := 6000) (fun i σ' H' => ∃ vs xs ys n a b c d e, σ' = [some x, some y, some (.ref l), a, b, c, d, e] ∧ H' l = some (.lst vs) ∧ Prs l H' vs xs ys ∧ Als K H xs ys n ∧ n + i ≤ 5999 ∧ Same H H') ?_ ?_ ?_⟩
    · refine ⟨_, [x], [y], N, none, none, none, none, none, rfl, upd_same, .cons ((upd_ne npl).trans upd_same) npl .nil, ?_, by omega, by walk_at "sm"⟩
      exact .cons hA .nil
    · rintro i σ' H' hi ⟨vs, xs, ys, n, a, b, c, d, e, rfl, el, pr, al, hn, sm⟩
      obtain ⟨hv1, hv2⟩ := pr.len
      walk_at "rd"
      refine i_d (fun hz => ?_) (fun hz => ?_)
      · walk_at "rd"
        exact k H' sm
      · have hz' : vs.length ≠ 0 := by omega
        obtain ⟨vs, v, rfl⟩ := snoc hz'
        obtain ⟨xs, x1, rfl⟩ := snoc (l := xs) (by omega)
        obtain ⟨ys, y1, rfl⟩ := snoc (l := ys) (by omega)
        rw [List.length_append, List.length_append] at hv1
        rw [List.length_append, List.length_append] at hv2
        obtain ⟨p1, rfl, hp1, n1, pr⟩ := pr.last (by simpa using hv1) (by simpa using hv2)
        obtain ⟨m, q, rfl, als, al⟩ := al.last (by simpa using hv2)
        have pr' : Prs l (upd H' l (.lst vs)) vs xs ys := pr.keep fun p o n h => (upd_ne n).trans h
        have sm' : Same H (upd H' l (.lst vs)) := same_mut sm hl0
        have hp1' : (upd H' l (.lst vs)) p1 = some (.lst [x1, y1]) := (upd_ne n1).trans hp1
        have el' : (upd H' l (.lst vs)) l = some (.lst vs) := upd_same
        walk_at "rd"
        intro tp htp
        walk_at "rd"
        have hq := al.pos
        have hvs : vs.length ≤ 5999 := by
          have := als.le
          simp at hv1 hv2
          omega
        have fin : ∀ H2 n2 (q : Same (upd H' l (.lst vs)) H2), H2 l = some (.lst vs) → ∃ n3, n3 + (i + 1) ≤ 5999 ∧ Prs l H2 vs xs ys ∧ Als K H xs ys n3 ∧ Same H H2 := fun H2 n2 q z => ⟨m, by omega, pr'.keep fun p o _ h => q p o h, als, Same.trans sm' q⟩
        have fin : ∀ H2 (q : Same (upd H' l (.lst vs)) H2), ∃ n3, n3 + (i + 1) ≤ 5999 ∧ Prs l H2 vs xs ys ∧ Als K H xs ys n3 ∧ Same H H2 := fun H2 q => ⟨m, by omega, pr'.keep fun p o _ h => q p o h, als, Same.trans sm' q⟩
        cases al
        · walk_at "go"
          obtain ⟨n3, a1, a2, a3, a4⟩ := fin _ (same_new (Same.refl _) htp)
          exact ⟨vs, xs, ys, n3, _, _, _, _, _, rfl, by walk_at "hp", a2, a3, a1, a4⟩
        · walk_at "go"
          obtain ⟨n3, a1, a2, a3, a4⟩ := fin _ (same_new (Same.refl _) htp)
          exact ⟨vs, xs, ys, n3, _, _, _, _, _, rfl, by walk_at "hp", a2, a3, a1, a4⟩
        · walk_at "go"
          obtain ⟨n3, a1, a2, a3, a4⟩ := fin _ (same_new (Same.refl _) htp)
          exact ⟨vs, xs, ys, n3, _, _, _, _, _, rfl, by walk_at "hp", a2, a3, a1, a4⟩
        · walk_at "go"
          obtain ⟨n3, a1, a2, a3, a4⟩ := fin _ (same_new (Same.refl _) htp)
          exact ⟨vs, xs, ys, n3, _, _, _, _, _, rfl, by walk_at "hp", a2, a3, a1, a4⟩
        case lst a1 b1 xs1 ys1 n1 h1 h2 hs =>
          have hlen : xs1.length = ys1.length := hs.len
          walk_at "isi"
          walk_at "rd"
          intro tq htq
          walk_at "rd"
          walk_at "isi"
          walk_at "rd"
          walk_at "tf"
          walk_at "rd"
          walk_at "isi"
          walk_at "rd"
          walk_at "isi"
          walk_at "rd"
          walk_at "tf"
          walk_at "rd"
          refine i_n (fun hne => absurd (by omega) hne) (fun _ => ?_)
          walk_at "rd"
          with_reducible refine c_rng1 ?_
          walk_at "rd"
          have smq : Same H (upd (upd (upd H' l (.lst vs)) tp (.tup [.ty "list", .ty "tuple"])) tq (.tup [.ty "list", .ty "tuple"])) := by walk_at "sm"
          have prq : Prs l (upd (upd (upd H' l (.lst vs)) tp (.tup [.ty "list", .ty "tuple"])) tq (.tup [.ty "list", .ty "tuple"])) vs xs ys := pr'.keep fun p o _ h => (same_new (same_new (Same.refl _) htp) htq) p o h
          have elq : (upd (upd (upd H' l (.lst vs)) tp (.tup [.ty "list", .ty "tuple"])) tq (.tup [.ty "list", .ty "tuple"])) l = some (.lst vs) := by walk_at "hp"
          generalize (upd (upd (upd H' l (.lst vs)) tp (.tup [.ty "list", .ty "tuple"])) tq (.tup [.ty "list", .ty "tuple"])) = G at smq prq elq
          have hbnd : ys1.length ≤ 5999 := by
            have := hs.le
            omega
          refine ⟨by omega, by omega, for_range (lo := 0) (n := ys1.length) (fun j σ3 H3 => ∃ us e1, σ3 = [some x, some y, some (.ref l), some (.int (0 + (i : Int))), some (.ref p1), some (.ref a1), some (.ref b1), e1] ∧ H3 l = some (.lst us) ∧ us.length ≤ 5999 + j ∧ Prs l H3 us (xs ++ xs1.take j) (ys ++ ys1.take j) ∧ Same H H3) ?_ ?_ ?_⟩
          · refine ⟨vs, _, rfl, elq, by omega, ?_, smq⟩
            rw [List.take_zero, List.take_zero, List.append_nil, List.append_nil]
            exact prq
          · rintro j σ3 H3 hj ⟨us, e1, rfl, el3, hus, pr3, sm3⟩
            have hx : xs1[j]? = some (xs1[j]'(by omega)) := List.getElem?_eq_getElem _
            have hy : ys1[j]? = some (ys1[j]'(by omega)) := List.getElem?_eq_getElem _
            rw [Int.zero_add]
            walk_at "rd"
            refine .inl (r_ixL (by walk_at "sa") (atI_nat hx) ?_)
            walk_at "rd"
            refine .inl (r_ixL (by walk_at "sa") (atI_nat hy) ?_)
            walk_at "rd"
            intro q hq
            have hql : q ≠ l := (ne_of_none el3 hq).symm
            walk_at "rd"
            refine ⟨us ++ [.ref q], _, rfl, upd_same, by simp; omega, ?_, same_mut (same_new sm3 hq) hl0⟩
            rw [List.take_add_one, List.take_add_one, hx, hy]
            have pr4 : Prs l (upd (upd H3 q (.lst [xs1[j]'(by omega), ys1[j]'(by omega)])) l (.lst (us ++ [.ref q]))) us (xs ++ xs1.take j) (ys ++ ys1.take j) := pr3.keep fun p o n h => (upd_ne n).trans ((upd_ne (ne_of_none h hq)).trans h)
            have := pr4.app (p := q) ((upd_ne hql).trans upd_same) hql
            simpa [List.append_assoc] using this
          · rintro σ3 H3 ⟨us, e1, rfl, el3, hus, pr3, sm3⟩
            rw [List.take_of_length_le (by omega), List.take_of_length_le (by omega)] at pr3
            exact ⟨us, xs ++ xs1, ys ++ ys1, m + n1, _, _, _, _, _, rfl, el3, pr3, als.app hs, by omega, sm3⟩
        case tup a1 b1 xs1 ys1 n1 h1 h2 hs =>
          have hlen : xs1.length = ys1.length := hs.len
          walk_at "isi"
          walk_at "rd"
          intro tq htq
          walk_at "rd"
          walk_at "isi"
          walk_at "rd"
          walk_at "tf"
          walk_at "rd"
          walk_at "isi"
          walk_at "rd"
          walk_at "isi"
          walk_at "rd"
          walk_at "tf"
          walk_at "rd"
          refine i_n (fun hne => absurd (by omega) hne) (fun _ => ?_)
          walk_at "rd"
          with_reducible refine c_rng1 ?_
          walk_at "rd"
          have smq : Same H (upd (upd (upd H' l (.lst vs)) tp (.tup [.ty "list", .ty "tuple"])) tq (.tup [.ty "list", .ty "tuple"])) := by walk_at "sm"
          have prq : Prs l (upd (upd (upd H' l (.lst vs)) tp (.tup [.ty "list", .ty "tuple"])) tq (.tup [.ty "list", .ty "tuple"])) vs xs ys := pr'.keep fun p o _ h => (same_new (same_new (Same.refl _) htp) htq) p o h
          have elq : (upd (upd (upd H' l (.lst vs)) tp (.tup [.ty "list", .ty "tuple"])) tq (.tup [.ty "list", .ty "tuple"])) l = some (.lst vs) := by walk_at "hp"
          generalize (upd (upd (upd H' l (.lst vs)) tp (.tup [.ty "list", .ty "tuple"])) tq (.tup [.ty "list", .ty "tuple"])) = G at smq prq elq
          have hbnd : ys1.length ≤ 5999 := by
            have := hs.le
            omega
          refine ⟨by omega, by omega, for_range (lo := 0) (n := ys1.length) (fun j σ3 H3 => ∃ us e1, σ3 = [some x, some y, some (.ref l), some (.int (0 + (i : Int))), some (.ref p1), some (.ref a1), some (.ref b1), e1] ∧ H3 l = some (.lst us) ∧ us.length ≤ 5999 + j ∧ Prs l H3 us (xs ++ xs1.take j) (ys ++ ys1.take j) ∧ Same H H3) ?_ ?_ ?_⟩
          · refine ⟨vs, _, rfl, elq, by omega, ?_, smq⟩
            rw [List.take_zero, List.take_zero, List.append_nil, List.append_nil]
            exact prq
          · rintro j σ3 H3 hj ⟨us, e1, rfl, el3, hus, pr3, sm3⟩
            have hx : xs1[j]? = some (xs1[j]'(by omega)) := List.getElem?_eq_getElem _
            have hy : ys1[j]? = some (ys1[j]'(by omega)) := List.getElem?_eq_getElem _
            rw [Int.zero_add]
            walk_at "rd"
            refine .inr (.inl (r_ixT (by walk_at "sa") (atI_nat hx) ?_))
            walk_at "rd"
            refine .inr (.inl (r_ixT (by walk_at "sa") (atI_nat hy) ?_))
            walk_at "rd"
            intro q hq
            have hql : q ≠ l := (ne_of_none el3 hq).symm
            walk_at "rd"
            refine ⟨us ++ [.ref q], _, rfl, upd_same, by simp; omega, ?_, same_mut (same_new sm3 hq) hl0⟩
            rw [List.take_add_one, List.take_add_one, hx, hy]
            have pr4 : Prs l (upd (upd H3 q (.lst [xs1[j]'(by omega), ys1[j]'(by omega)])) l (.lst (us ++ [.ref q]))) us (xs ++ xs1.take j) (ys ++ ys1.take j) := pr3.keep fun p o n h => (upd_ne n).trans ((upd_ne (ne_of_none h hq)).trans h)
            have := pr4.app (p := q) ((upd_ne hql).trans upd_same) hql
            simpa [List.append_assoc] using this
          · rintro σ3 H3 ⟨us, e1, rfl, el3, hus, pr3, sm3⟩
            rw [List.take_of_length_le (by omega), List.take_of_length_le (by omega)] at pr3
            exact ⟨us, xs ++ xs1, ys ++ ys1, m + n1, _, _, _, _, _, rfl, el3, pr3, als.app hs, by omega, sm3⟩
    · rintro σ' H' ⟨vs, xs, ys, n, a, b, c, d, e, rfl, el, pr, al, hn, sm⟩
      omega
end

/-! ### numbers, pools, rows -/
def spNumber : Sp := fun vs H Q _ => ∃ (S L : Addr) (ns : List Int) (m : Int), vs = [.ref S, .int m] ∧ Strm S L ns H ∧ 6 ≤ m ∧ m < 10 ^ 30 ∧ ∀ r H', -m ≤ r → r ≤ m → Ex S H H' → Strm S L ns H' → Q (.int r) H'
theorem use_number {S L : Addr} {ns : List Int} {m : Int} {H : Hp} {Q : VK} {E : XK} (s : Strm S L ns H) (h0 : 6 ≤ m) (h1 : m < 10 ^ 30) (k : ∀ r H', -m ≤ r → r ≤ m → Ex S H H' → Strm S L ns H' → Q (.int r) H') : spNumber [.ref S, .int m] H Q E :=
  ⟨S, L, ns, m, rfl, s, h0, h1, k⟩
/-- a list of numbers at q -/
structure Nums (S : Addr) (H : Hp) (q : Addr) (ns : List Int) : Prop where
  at_ : H q = some (.lst (ns.map V.int))
  ne : q ≠ S
  len : ns.length ≤ 8
  bd : ∀ z ∈ ns, -(10 ^ 18) < z ∧ z < 10 ^ 18
theorem Nums.ex {S q : Addr} {H H' : Hp} {ns : List Int} (n : Nums S H q ns) (e : Ex S H H') : Nums S H' q ns := ⟨e _ _ n.ne n.at_, n.ne, n.len, n.bd⟩
/-- a pool: at p a list of n lists of numbers -/
structure Pool (S : Addr) (H : Hp) (p : Addr) (qs : List Addr) : Prop where
  at_ : H p = some (.lst (qs.map V.ref))
  ne : p ≠ S
  each : ∀ q ∈ qs, ∃ ns, Nums S H q ns ∧ 0 < ns.length
theorem Pool.ex {S p : Addr} {H H' : Hp} {qs : List Addr} (n : Pool S H p qs) (e : Ex S H H') : Pool S H' p qs :=
  ⟨e _ _ n.ne n.at_, n.ne, fun q hq => let ⟨ns, a, b⟩ := n.each q hq; ⟨ns, a.ex e, b⟩⟩
def spPool : Sp := fun vs H Q _ => ∃ (S L : Addr) (ns : List Int) (w : Nat), vs = [.ref S, .int (w : Int)] ∧ Strm S L ns H ∧ 1 ≤ w ∧ w ≤ 3 ∧ ∀ p qs H', H p = none → Ex S H H' → Strm S L ns H' → Pool S H' p qs → qs.length = w → Q (.ref p) H'
theorem Nums.app {S q : Addr} {H : Hp} {ns : List Int} {z : Int} (n : Nums S H q ns) (h : ns.length < 8) (h0 : -(10 ^ 18) < z) (h1 : z < 10 ^ 18) : Nums S (upd H q (.lst (ns.map V.int ++ [.int z]))) q (ns ++ [z]) :=
  ⟨by rw [upd_same, List.map_append]; rfl, n.ne, by rw [List.length_append]; exact h, fun y hy => by
    rcases List.mem_append.mp hy with hy | hy
    · exact n.bd y hy
    · rw [List.mem_singleton] at hy
      subst hy
      exact ⟨h0, h1⟩⟩
theorem Nums.get {S q : Addr} {H : Hp} {ns : List Int} (n : Nums S H q ns) {i : Nat} (h : i < ns.length) : -(10 ^ 18) < ns[i] ∧ ns[i] < 10 ^ 18 := n.bd _ (List.getElem_mem h)
theorem Pool.app {S p q : Addr} {H : Hp} {qs : List Addr} {ns : List Int} (n : Pool S H p qs) (hq : Nums S H q ns) (h0 : 0 < ns.length) (hpq : q ≠ p) (hqs : ∀ x ∈ qs, x ≠ p) : Pool S (upd H p (.lst (qs.map V.ref ++ [.ref q]))) p (qs ++ [q]) :=
  ⟨by rw [upd_same, List.map_append]; rfl, n.ne, fun y hy => by
    rcases List.mem_append.mp hy with hy | hy
    · obtain ⟨ms, a, b⟩ := n.each y hy
      exact ⟨ms, ⟨(upd_ne (hqs y hy)).trans a.at_, a.ne, a.len, a.bd⟩, b⟩
    · rw [List.mem_singleton] at hy
      subst hy
      exact ⟨ns, ⟨(upd_ne hpq).trans hq.at_, hq.ne, hq.len, hq.bd⟩, h0⟩⟩
theorem pick3 {w : Nat} (h0 : 1 ≤ w) (h1 : w ≤ 3) : ∃ v : Int, atI [V.int 8, .int 7, .int 2] ((w : Int) - 1) = some (.int v) ∧ 0 < v ∧ v ≤ 8 := by
  have : w = 1 ∨ w = 2 ∨ w = 3 := by omega
  rcases this with rfl | rfl | rfl
  · exact ⟨8, atI_nat (j := 0) rfl, by decide, by decide⟩
  · exact ⟨7, atI_nat (j := 1) rfl, by decide, by decide⟩
  · exact ⟨2, atI_nat (j := 2) rfl, by decide, by decide⟩
section
variable {P : Program} {w : World} {K : PySem.W.Frag} {mg : Str → Option Value} {base : Heap}
theorem ok_number (T : Txt K mg) : FnOk P w K mg base CX0 2 T.a_number T.d_number ["_law_stream_here", "_law_most"] (spNumber) := by
  refine T.F_number.ok sc__law_number (fun vs H Q E h => ?_) (fun cdv A outer s H vs Q E hr h => ⟨_, (pss_cons (ps_set (i := 2) sc__law_number.nd rfl (.inl rfl) (pe_call (ok_draw T) (hr.mono (by decide)) (by rfl) T.g_draw T.F_draw.kp T.b_draw .nil pass0 (pa_cons (pv 0) (pa_cons pe_int pa_nil))))
      (pss_cons (ps_if (pt_cmpR op_eq (pv 2) pe_int (nomark _))
      (pss_one (ps_ret (pe_op op_sub (pe_call (ok_draw T) (hr.mono (by decide)) (by rfl) T.g_draw T.F_draw.kp T.b_draw .nil pass0 (pa_cons (pv 0) (pa_cons (pe_op op_add (pe_op op_mul pe_int (pv 1)) pe_int) pa_nil))) (pv 1))))
      pss_nil)
      (pss_cons (ps_if (pt_cmpR op_eq (pv 2) pe_int (nomark _))
      (pss_one (ps_ret (pe_op op_mul (pe_op op_sub (pv 1) (pe_call (ok_draw T) (hr.mono (by decide)) (by rfl) T.g_draw T.F_draw.kp T.b_draw .nil pass0 (pa_cons (pv 0) (pa_cons pe_int pa_nil)))) (pe_op op_sub pe_int (pe_op op_mul pe_int (pe_call (ok_draw T) (hr.mono (by decide)) (by rfl) T.g_draw T.F_draw.kp T.b_draw .nil pass0 (pa_cons (pv 0) (pa_cons pe_int pa_nil))))))))
      pss_nil)
      (pss_one (ps_ret (pe_op op_sub (pe_call (ok_draw T) (hr.mono (by decide)) (by rfl) T.g_draw T.F_draw.kp T.b_draw .nil pass0 (pa_cons (pv 0) (pa_cons pe_int pa_nil))) pe_int)))))), ?_⟩)
  · first | (obtain ⟨rfl, _⟩ := h; rfl) | (obtain ⟨_, rfl, _⟩ := h; rfl) | (obtain ⟨_, _, rfl, _⟩ := h; rfl) | (obtain ⟨_, _, _, rfl, _⟩ := h; rfl) | (obtain ⟨_, _, _, _, rfl, _⟩ := h; rfl) | (obtain ⟨_, _, _, _, _, rfl, _⟩ := h; rfl) | (obtain ⟨_, _, _, _, _, _, rfl, _⟩ := h; rfl) | (obtain ⟨_, _, _, _, _, _, _, rfl, _⟩ := h; rfl) | (obtain ⟨_, _, _, _, _, _, _, _, rfl, _⟩ := h; rfl) | (obtain ⟨_, _, _, _, _, _, _, _, _, rfl, _⟩ := h; rfl) | (obtain ⟨_, _, _, _, _, _, _, _, _, _, rfl, _⟩ := h; rfl) | (obtain ⟨_, _, _, _, _, _, _, _, _, _, _, rfl, _⟩ := h; rfl) | (obtain ⟨_, _, _, _, _, _, _, _, _, _, _, _, rfl, _⟩ := h; rfl) | (obtain ⟨_, _, _, _, _, _, _, _, _, _, _, _, _, rfl, _⟩ := h; rfl) | (obtain ⟨_, _, _, _, _, _, _, _, _, _, _, _, _, _, rfl, _⟩ := h; rfl)
  · obtain ⟨S, L, ns, m, rfl, st, h0, h1, k⟩ := h
    try dsimp only [cxOf, Cx.nox, Cx.wish]
    refine st_of (σ := [some _, some _, none]) rfl ?_
    walk_at "rd"
    refine use_draw st (by decide) (by decide) (fun kd H1 k0 k1 x1 st1 => ?_)
    walk_at "rd"
    refine i_d (fun hk => ?_) (fun hk => ?_)
    · walk_at "rd"
      refine use_draw st1 (by omega) (by omega) (fun r H2 r0 r1 x2 st2 => ?_)
      walk_at "rd"
      exact k _ _ (by omega) (by omega) (x1.trans x2) st2
    · walk_at "rd"
      refine i_d (fun hk => ?_) (fun hk => ?_)
      · walk_at "rd"
        refine use_draw st1 (by decide) (by decide) (fun r H2 r0 r1 x2 st2 => ?_)
        walk_at "rd"
        refine use_draw st2 (by decide) (by decide) (fun e H3 e0 e1 x3 st3 => ?_)
        walk_at "rd"
        have he : e = 0 ∨ e = 1 := by omega
        rcases he with rfl | rfl
        · exact k _ _ (by omega) (by omega) ((x1.trans x2).trans x3) st3
        · exact k _ _ (by omega) (by omega) ((x1.trans x2).trans x3) st3
      · walk_at "rd"
        refine use_draw st1 (by decide) (by decide) (fun r H2 r0 r1 x2 st2 => ?_)
        walk_at "rd"
        exact k _ _ (by omega) (by omega) (x1.trans x2) st2
theorem ok_pool (T : Txt K mg) : FnOk P w K mg base CX0 3 T.a_pool T.d_pool ["_law_stream_here", "_law_wide"] (spPool) := by
  refine T.F_pool.ok sc__law_pool (fun vs H Q E h => ?_) (fun cdv A outer s H vs Q E hr h => ⟨_, (pss_cons (ps_set (i := 2) sc__law_pool.nd rfl (.inl rfl) (pe_lst pa_nil))
      (pss_cons (ps_for PassesOwn.never rfl (pi_range1 (by rfl) T.z_range (pa_cons (pv 1) pa_nil)) (pg_name (i := 3) sc__law_pool.nd rfl (.inl rfl))
      (pss_cons (ps_set (i := 4) sc__law_pool.nd rfl (.inl rfl) (pe_lst (pa_cons (pe_call (ok_number T) (hr.mono (by decide)) (by rfl) T.g_number T.F_number.kp T.b_number .nil pass0 (pa_cons (pv 0) (pa_cons (pe_op op_sub (pe_op op_pow pe_int pe_int) pe_int) pa_nil))) pa_nil)))
      (pss_cons (ps_for PassesOwn.never rfl (pi_range1 (by rfl) T.z_range (pa_cons (pe_call (ok_draw T) (hr.mono (by decide)) (by rfl) T.g_draw T.F_draw.kp T.b_draw .nil pass0 (pa_cons (pv 0) (pa_cons (pe_ix ix_list (pe_lst (pa_cons pe_int (pa_cons pe_int (pa_cons pe_int pa_nil)))) (pe_op op_sub (pv 1) pe_int) (fun _ _ => rfl)) pa_nil))) pa_nil)) (pg_name (i := 5) sc__law_pool.nd rfl (.inl rfl))
      (pss_one (ps_if (PW.pt (pw_and (pt_cmpR op_lt (pe_ix ix_list (pv 4) (pv 5) (fun _ _ => rfl)) (pe_op op_sub (pe_op op_pow pe_int pe_int) pe_int) (nomark _)) (pw_and1 (pt_cmpR op_eq (pe_call (ok_draw T) (hr.mono (by decide)) (by rfl) T.g_draw T.F_draw.kp T.b_draw .nil pass0 (pa_cons (pv 0) (pa_cons pe_int pa_nil))) pe_int (nomark _)))))
      (pss_one (ps_expr (pe_bm PySem.F.plainAttrs_list PySem.F.slot_list_append PySem.F.type_list_append mt_append (pv 4) (pa_cons (pe_op op_add (pe_ix ix_list (pv 4) (pv 5) (fun _ _ => rfl)) (pe_call (ok_draw T) (hr.mono (by decide)) (by rfl) T.g_draw T.F_draw.kp T.b_draw .nil pass0 (pa_cons (pv 0) (pa_cons pe_int pa_nil)))) pa_nil))))
      (pss_one (ps_expr (pe_bm PySem.F.plainAttrs_list PySem.F.slot_list_append PySem.F.type_list_append mt_append (pv 4) (pa_cons (pe_call (ok_number T) (hr.mono (by decide)) (by rfl) T.g_number T.F_number.kp T.b_number .nil pass0 (pa_cons (pv 0) (pa_cons (pe_op op_sub (pe_op op_pow pe_int pe_int) pe_int) pa_nil))) pa_nil)))))))
      (pss_one (ps_expr (pe_bm PySem.F.plainAttrs_list PySem.F.slot_list_append PySem.F.type_list_append mt_append (pv 2) (pa_cons (pv 4) pa_nil)))))))
      (pss_one (ps_ret (pv 2))))), ?_⟩)
  · first | (obtain ⟨rfl, _⟩ := h; rfl) | (obtain ⟨_, rfl, _⟩ := h; rfl) | (obtain ⟨_, _, rfl, _⟩ := h; rfl) | (obtain ⟨_, _, _, rfl, _⟩ := h; rfl) | (obtain ⟨_, _, _, _, rfl, _⟩ := h; rfl) | (obtain ⟨_, _, _, _, _, rfl, _⟩ := h; rfl) | (obtain ⟨_, _, _, _, _, _, rfl, _⟩ := h; rfl) | (obtain ⟨_, _, _, _, _, _, _, rfl, _⟩ := h; rfl) | (obtain ⟨_, _, _, _, _, _, _, _, rfl, _⟩ := h; rfl) | (obtain ⟨_, _, _, _, _, _, _, _, _, rfl, _⟩ := h; rfl) | (obtain ⟨_, _, _, _, _, _, _, _, _, _, rfl, _⟩ := h; rfl) | (obtain ⟨_, _, _, _, _, _, _, _, _, _, _, rfl, _⟩ := h; rfl) | (obtain ⟨_, _, _, _, _, _, _, _, _, _, _, _, rfl, _⟩ := h; rfl) | (obtain ⟨_, _, _, _, _, _, _, _, _, _, _, _, _, rfl, _⟩ := h; rfl) | (obtain ⟨_, _, _, _, _, _, _, _, _, _, _, _, _, _, rfl, _⟩ := h; rfl)
  · obtain ⟨S, L, ns, w, rfl, st, h0, h1, k⟩ := h
    try dsimp only [cxOf, Cx.nox, Cx.wish]
    refine st_of (σ := [some _, some _, none, none, none, none]) rfl ?_
    walk_at "rd"
    intro p hp
    have npS := st.neS hp
    have npL := st.neL hp
    walk_at "rd"
    with_reducible refine c_rng1 ?_
    walk_at "rd"
    refine ⟨by omega, by omega, for_range (lo := 0) (n := w) (fun i σ G => ∃ (qs : List Addr) (e3 e4 e5 : Option V), σ = [some (.ref S), some (.int (w : Int)), some (.ref p), e3, e4, e5] ∧ Strm S L ns G ∧ Ex S H G ∧ Pool S G p qs ∧ qs.length = i ∧ ∀ x ∈ qs, x ≠ p) ?_ ?_ ?_⟩
    · exact ⟨[], _, _, _, rfl, st.new hp, Ex.new (Ex.refl _ _) hp, ⟨upd_same, npS, fun q hq => nomatch hq⟩, rfl, fun q hq => nomatch hq⟩
    · rintro i σ G hi ⟨qs, e3, e4, e5, rfl, stG, xG, pl, hlen, hqp⟩
      walk_at "rd"
      refine use_number stG (by decide) (by decide) (fun z H1 z0 z1 x1 st1 => ?_)
      walk_at "rd"
      intro q hq
      have pl1 := pl.ex x1
      have hG1 := pl1.at_
      have nqp : q ≠ p := (ne_of_none hG1 hq).symm
      have nqS := st1.neS hq
      have nqL := st1.neL hq
      have hqx : ∀ x ∈ qs, x ≠ q := fun x hx => by
        obtain ⟨us, a, _⟩ := pl1.each x hx
        exact ne_of_none a.at_ hq
      have hqH : H q = none := by
        cases e : H q with
        | none => rfl
        | some o =>
          have := (xG.trans x1) _ _ nqS e
          rw [hq] at this
          cases this
      walk_at "rd"
      with_reducible refine c_rng1 ?_
      walk_at "rd"
      intro t ht
      walk_at "rd"
      obtain ⟨v, hv, v0, v8⟩ := pick3 h0 h1
      refine r_ixL (sql upd_same) hv ?_
      walk_at "rd"
      refine use_draw ((st1.new hq).new ht) v0 (by omega) (fun r H2 r0 r1 x2 st2 => ?_)
      have x02 : Ex S G H2 := x1.trans ((Ex.new (Ex.new (Ex.refl _ _) hq) ht).trans x2)
      have nm2 : Nums S H2 q [z] := ⟨x2 _ _ nqS (by walk_at "hp"), nqS, by simp, fun y hy => by
        rw [List.mem_singleton] at hy
        subst hy
        exact ⟨by omega, by omega⟩⟩
      walk_at "rd"
      refine ⟨by omega, by omega, for_range (lo := 0) (n := r.toNat) (fun j σ G3 => ∃ (ms : List Int) (e5 : Option V), σ = [some (.ref S), some (.int (w : Int)), some (.ref p), some (.int (0 + (i : Int))), some (.ref q), e5] ∧ Strm S L ns G3 ∧ Ex S H G3 ∧ Pool S G3 p qs ∧ Nums S G3 q ms ∧ ms.length = j + 1) ?_ ?_ ?_⟩
      · exact ⟨[z], e5, rfl, st2, xG.trans x02, pl.ex x02, nm2, rfl⟩
      · rintro j σ G3 hj ⟨ms, e5, rfl, st3, x3, pl3, nm3, hms⟩
        have hjl : j < ms.length := by omega
        have hz := nm3.get hjl
        have hm := map_at hjl
        have hsz : (ms.map V.int).length < sizeLine := smallLt (by rw [List.length_map]; omega)
        have h3 := nm3.at_
        have tail : ∀ (G4 : Hp) (y : Int), Ex S G3 G4 → Strm S L ns G4 → -(10 ^ 18) < y → y < 10 ^ 18 → Strm S L ns (upd G4 q (.lst (ms.map V.int ++ [.int y]))) ∧ Ex S H (upd G4 q (.lst (ms.map V.int ++ [.int y]))) ∧ Pool S (upd G4 q (.lst (ms.map V.int ++ [.int y]))) p qs ∧ Nums S (upd G4 q (.lst (ms.map V.int ++ [.int y]))) q (ms ++ [y]) ∧ (ms ++ [y]).length = j + 1 + 1 := by
          intro G4 y x4 st4 y0 y1
          refine ⟨st4.upd nqS nqL, Ex.mut (x3.trans x4) hqH, ?_, (nm3.ex x4).app (by omega) y0 y1, by simp [hms]⟩
          have pl4 := pl3.ex x4
          exact ⟨(upd_ne nqp.symm).trans pl4.at_, pl4.ne, fun x hx => by
            obtain ⟨us, a, b⟩ := pl4.each x hx
            exact ⟨us, ⟨(upd_ne (hqx x hx)).trans a.at_, a.ne, a.len, a.bd⟩, b⟩⟩
        rw [Int.zero_add]
        walk_at "rd"
        refine r_ixL (sql h3) (atI_nat hm) ?_
        have els : ∀ G4, Ex S G3 G4 → Strm S L ns G4 → ∃ (y : Int) (G5 : Hp), True := fun _ _ _ => ⟨0, G3, trivial⟩
        generalize ms[j] = y at hz hm
        walk_at "rd"
        refine i_d (fun hy => ?_) (fun hy => ?_)
        · walk_at "rd"
          refine use_draw st3 (by decide) (by decide) (fun d G4 d0 d1 x4 st4 => ?_)
          have h4 := (nm3.ex x4).at_
          walk_at "rd"
          refine i_d (fun hd => ?_) (fun hd => ?_)
          · walk_at "rd"
            refine r_ixL (sql h4) (atI_nat hm) ?_
            walk_at "rd"
            refine use_draw st4 (by decide) (by decide) (fun d' G5 d0' d1' x5 st5 => ?_)
            have h5 := (nm3.ex (x4.trans x5)).at_
            walk_at "rd"
            obtain ⟨t1, t2, t3, t4, t5⟩ := tail G5 (y + d') (x4.trans x5) st5 (by omega) (by omega)
            exact ⟨ms ++ [y + d'], some (.int (j : Int)), rfl, t1, t2, t3, t4, t5⟩
          · walk_at "rd"
            refine use_number st4 (by decide) (by decide) (fun d' G5 d0' d1' x5 st5 => ?_)
            have h5 := (nm3.ex (x4.trans x5)).at_
            walk_at "rd"
            obtain ⟨t1, t2, t3, t4, t5⟩ := tail G5 d' (x4.trans x5) st5 (by omega) (by omega)
            exact ⟨ms ++ [d'], some (.int (j : Int)), rfl, t1, t2, t3, t4, t5⟩
        · walk_at "rd"
          refine use_number st3 (by decide) (by decide) (fun d' G5 d0' d1' x5 st5 => ?_)
          have h5 := (nm3.ex x5).at_
          walk_at "rd"
          obtain ⟨t1, t2, t3, t4, t5⟩ := tail G5 d' x5 st5 (by omega) (by omega)
          exact ⟨ms ++ [d'], some (.int (j : Int)), rfl, t1, t2, t3, t4, t5⟩
      · rintro σ G3 ⟨ms, e5, rfl, st3, x3, pl3, nm3, hms⟩
        have hp3 := pl3.at_
        have hsz : (qs.map V.ref).length < sizeLine := smallLt (by rw [List.length_map]; omega)
        walk_at "rd"
        exact ⟨qs ++ [q], some (.int (0 + (i : Int))), some (.ref q), e5, rfl, st3.upd npS npL, Ex.mut x3 hp, pl3.app nm3 (by omega) nqp hqp, by simp [hlen], fun x hx => by
          rcases List.mem_append.mp hx with hx | hx
          · exact hqp x hx
          · rw [List.mem_singleton] at hx
            subst hx
            exact nqp⟩
    · rintro σ G ⟨qs, e3, e4, e5, rfl, stG, xG, pl, hlen, _⟩
      walk_at "rd"
      exact k p qs G hp xG stG pl hlen
end

/-! ### rows -/
def spRow : Sp := fun vs H Q _ => ∃ (S L : Addr) (ns : List Int) (p : Addr) (qs : List Addr), vs = [.ref S, .ref p] ∧ Strm S L ns H ∧ Pool S H p qs ∧ qs.length ≤ 3 ∧
  ∀ t us H', H t = none → Ex S H H' → Strm S L ns H' → H' t = some (.tup us) → us.length = qs.length → RowOk us → t ≠ S → Q (.ref t) H'
section
variable {P : Program} {w : World} {K : PySem.W.Frag} {mg : Str → Option Value} {base : Heap}
theorem ok_row (T : Txt K mg) : FnOk P w K mg base CX0 3 T.a_row T.d_row ["_law_stream_here", "_law_pool_here"] (spRow) := by
  refine T.F_row.ok sc__law_row (fun vs H Q E h => ?_) (fun cdv A outer s H vs Q E hr h => ⟨_, (pss_cons (ps_set (i := 2) sc__law_row.nd rfl (.inl rfl) (pe_lst pa_nil))
      (pss_cons (ps_for PassesOwn.never rfl (pi_list (pv 1)) (pg_name (i := 3) sc__law_row.nd rfl (.inl rfl))
      (pss_cons (ps_set (i := 4) sc__law_row.nd rfl (.inl rfl) (pe_call (ok_draw T) (hr.mono (by decide)) (by rfl) T.g_draw T.F_draw.kp T.b_draw .nil pass0 (pa_cons (pv 0) (pa_cons pe_int pa_nil))))
      (pss_one (ps_if (pt_cmpR op_eq (pv 4) pe_int (nomark _))
      (pss_one (ps_expr (pe_bm PySem.F.plainAttrs_list PySem.F.slot_list_append PySem.F.type_list_append mt_append (pv 2) (pa_cons pe_non pa_nil))))
      (pss_one (ps_if (pt_cmpR op_eq (pv 4) pe_int (nomark _))
      (pss_one (ps_expr (pe_bm PySem.F.plainAttrs_list PySem.F.slot_list_append PySem.F.type_list_append mt_append (pv 2) (pa_cons (pe_call (ok_number T) (hr.mono (by decide)) (by rfl) T.g_number T.F_number.kp T.b_number .nil pass0 (pa_cons (pv 0) (pa_cons (pe_op op_pow pe_int pe_int) pa_nil))) pa_nil))))
      (pss_one (ps_expr (pe_bm PySem.F.plainAttrs_list PySem.F.slot_list_append PySem.F.type_list_append mt_append (pv 2) (pa_cons (pe_op op_sub (pe_op op_add (pe_ix ix_list (pv 3) (pe_call (ok_draw T) (hr.mono (by decide)) (by rfl) T.g_draw T.F_draw.kp T.b_draw .nil pass0 (pa_cons (pv 0) (pa_cons (pe_callB call_len_seq (by rfl) T.z_len PySem.boot_len (pa_cons (pv 3) pa_nil)) pa_nil))) (fun _ _ => rfl)) (pe_op op_mod (pe_callTy call_int1 (by rfl) T.z_int (by decide +kernel) (pa_cons (pv 4) pa_nil)) pe_int)) pe_int) pa_nil))))))))))
      (pss_one (ps_ret (pe_callTy call_tuple_of (by rfl) T.z_tuple (by decide +kernel) (pa_cons (pv 2) pa_nil)))))), ?_⟩)
  · first | (obtain ⟨rfl, _⟩ := h; rfl) | (obtain ⟨_, rfl, _⟩ := h; rfl) | (obtain ⟨_, _, rfl, _⟩ := h; rfl) | (obtain ⟨_, _, _, rfl, _⟩ := h; rfl) | (obtain ⟨_, _, _, _, rfl, _⟩ := h; rfl) | (obtain ⟨_, _, _, _, _, rfl, _⟩ := h; rfl) | (obtain ⟨_, _, _, _, _, _, rfl, _⟩ := h; rfl) | (obtain ⟨_, _, _, _, _, _, _, rfl, _⟩ := h; rfl) | (obtain ⟨_, _, _, _, _, _, _, _, rfl, _⟩ := h; rfl) | (obtain ⟨_, _, _, _, _, _, _, _, _, rfl, _⟩ := h; rfl) | (obtain ⟨_, _, _, _, _, _, _, _, _, _, rfl, _⟩ := h; rfl) | (obtain ⟨_, _, _, _, _, _, _, _, _, _, _, rfl, _⟩ := h; rfl) | (obtain ⟨_, _, _, _, _, _, _, _, _, _, _, _, rfl, _⟩ := h; rfl) | (obtain ⟨_, _, _, _, _, _, _, _, _, _, _, _, _, rfl, _⟩ := h; rfl) | (obtain ⟨_, _, _, _, _, _, _, _, _, _, _, _, _, _, rfl, _⟩ := h; rfl)
  · obtain ⟨S, L, ns, p, qs, rfl, st, pl, hq3, k⟩ := h
    try dsimp only [cxOf, Cx.nox, Cx.wish]
    refine st_of (σ := [some _, some _, none, none, none]) rfl ?_
    walk_at "rd"
    intro t ht
    have ntS := st.neS ht
    have ntL := st.neL ht
    have hp0 := pl.at_
    have npt : p ≠ t := ne_of_none hp0 ht
    walk_at "rd"
    with_reducible refine c_forList ?_
    walk_at "rd"
    refine ⟨⟨_, sql ((upd_ne npt).trans hp0)⟩, for_list (xs := qs.map V.ref) (fun i σ G => ∃ (us : List V) (e3 e4 : Option V), σ = [some (.ref S), some (.ref p), some (.ref t), e3, e4] ∧ Strm S L ns G ∧ Ex S H G ∧ G t = some (.lst us) ∧ us.length = i ∧ RowOk us) ?_ ?_ ?_ ?_⟩
    · exact ⟨[], none, none, rfl, st.new ht, Ex.new (Ex.refl _ _) ht, upd_same, rfl, fun v hv => nomatch hv⟩
    · rintro i σ G _ ⟨_, _, _, _, _, xG, _⟩
      exact sql (pl.ex xG).at_
    · rintro i x σ G hi ⟨us, e3, e4, rfl, stG, xG, gt, hlen, ok⟩
      obtain ⟨q, hqm, rfl⟩ : ∃ q, q ∈ qs ∧ x = V.ref q := by
        have := List.mem_of_getElem? hi
        obtain ⟨q, a, b⟩ := List.mem_map.mp this
        exact ⟨q, a, b.symm⟩
      have hil : i < qs.length := by
        have := (List.getElem?_eq_some_iff.mp hi).1
        simpa using this
      have hsz : us.length < sizeLine := smallLt (by omega)
      have add : ∀ (G' : Hp) (v : V), Ex S G G' → Strm S L ns G' → (v = .non ∨ ∃ z : Int, v = .int z ∧ -(10 ^ 18) ≤ z ∧ z ≤ 10 ^ 18) →
          Strm S L ns (upd G' t (.lst (us ++ [v]))) ∧ Ex S H (upd G' t (.lst (us ++ [v]))) ∧ (us ++ [v]).length = i + 1 ∧ RowOk (us ++ [v]) := by
        intro G' v x' st' hv
        refine ⟨st'.upd ntS ntL, Ex.mut (xG.trans x') ht, by simp [hlen], fun y hy => ?_⟩
        rcases List.mem_append.mp hy with hy | hy
        · exact ok y hy
        · rw [List.mem_singleton] at hy
          subst hy
          exact hv
      walk_at "rd"
      refine use_draw stG (by decide) (by decide) (fun kd G1 k0 k1 x1 st1 => ?_)
      have g1 := x1 _ _ ntS gt
      walk_at "rd"
      refine i_d (fun hk => ?_) (fun hk => ?_)
      · walk_at "rd"
        obtain ⟨a1, a2, a3, a4⟩ := add G1 .non x1 st1 (.inl rfl)
        exact ⟨us ++ [.non], some (.ref q), some (.int kd), rfl, a1, a2, upd_same, a3, a4⟩
      · walk_at "rd"
        refine i_d (fun hk => ?_) (fun hk => ?_)
        · walk_at "rd"
          refine use_number st1 (by decide) (by decide) (fun z G2 z0 z1 x2 st2 => ?_)
          have g2 := x2 _ _ ntS g1
          walk_at "rd"
          obtain ⟨a1, a2, a3, a4⟩ := add G2 (.int z) (x1.trans x2) st2 (.inr ⟨z, rfl, by omega, by omega⟩)
          exact ⟨us ++ [.int z], some (.ref q), some (.int kd), rfl, a1, a2, upd_same, a3, a4⟩
        · obtain ⟨ms, nm, m0⟩ := ((pl.ex xG).ex x1).each q hqm
          have hms := nm.at_
          have hm8 := nm.len
          walk_at "rd"
          refine use_draw st1 (by rw [List.length_map]; omega) (by rw [List.length_map]; omega) (fun d G2 d0 d1 x2 st2 => ?_)
          rw [List.length_map] at d1
          have hdl : d.toNat < ms.length := by omega
          have hd := map_at hdl
          have hz := (nm.ex x2).get hdl
          have hms2 := (nm.ex x2).at_
          have g2 := x2 _ _ ntS g1
          walk_at "rd"
          refine r_ixL (sql hms2) (at_of (j := d.toNat) (by omega) hd) ?_
          generalize ms[d.toNat] = z at hz hd
          walk_at "rd"
          obtain ⟨a1, a2, a3, a4⟩ := add G2 (.int (z + kd % 3 - 1)) (x1.trans x2) st2 (.inr ⟨_, rfl, by omega, by omega⟩)
          exact ⟨us ++ [.int (z + kd % 3 - 1)], some (.ref q), some (.int kd), rfl, a1, a2, upd_same, a3, a4⟩
    · rintro σ G ⟨us, e3, e4, rfl, stG, xG, gt, hlen, ok⟩
      rw [List.length_map] at hlen
      walk_at "rd"
      refine ⟨t, us, rfl, .inl ⟨sql gt, fun r hr => ?_⟩⟩
      have nrS := stG.neS hr
      have hrH : H r = none := by
        cases e : H r with
        | none => rfl
        | some o =>
          have := xG _ _ nrS e
          rw [hr] at this
          cases this
      exact k r us _ hrH (Ex.new xG hr) (stG.new hr) upd_same hlen ok nrS
end

/-! ### rows in a list -/
def Rws (K : PySem.W.Frag) (w : Nat) (H : Hp) (xs : List V) : Prop := ∀ x ∈ xs, ∃ (t : Addr) (us : List V), x = V.ref t ∧ SqT K H t us ∧ w ≤ us.length ∧ us.length ≤ 3 ∧ ∀ z ∈ us, VNI z
theorem Rws.keep {K : PySem.W.Frag} {w : Nat} {H H' : Hp} {xs : List V} (h : Rws K w H xs) (e : Tp H H') : Rws K w H' xs := fun x hx => let ⟨t, us, a, b, c⟩ := h x hx; ⟨t, us, a, e.tup b, c⟩
theorem Rws.app {K : PySem.W.Frag} {w : Nat} {H : Hp} {xs ys : List V} (h : Rws K w H xs) (g : Rws K w H ys) : Rws K w H (xs ++ ys) := fun x hx => by
  rcases List.mem_append.mp hx with hx | hx
  · exact h x hx
  · exact g x hx
theorem Rws.one {K : PySem.W.Frag} {w : Nat} {H : Hp} {t : Addr} {us : List V} (h : SqT K H t us) (hw : w ≤ us.length) (h3 : us.length ≤ 3) (hv : ∀ z ∈ us, VNI z) : Rws K w H [.ref t] := fun x hx => by
  rw [List.mem_singleton] at hx
  exact ⟨t, us, hx, h, hw, h3, hv⟩
theorem Strm.tp {S L : Addr} {ns : List Int} {H H1 : Hp} (s : Strm S L ns H) (e : Ex S H H1) : Tp H H1 := by
  obtain ⟨⟨_, _, _, a, _⟩, _⟩ := s
  exact Tp.ex e a

end Tac1
section Tac2
/-! ### the words: "rd" goes on as far as it can; "hp" finds what stands at an address; "t" "f" a test that is known -/
local macro_rules | `(tactic| walk_at "h0") => `(tactic| first | assumption | exact upd_same)
local macro_rules | `(tactic| walk_at "n0") => `(tactic| first
  | assumption | (apply Ne.symm; assumption) | exact ne_nn (by assumption) (by walk_at "h0") | exact ne_nn' (by assumption) (by walk_at "h0"))
local macro_rules | `(tactic| walk_at "hq") => `(tactic| first
  | assumption | exact upd_same | exact (upd_ne (by walk_at "n0")).trans (by walk_at "hq"))
local macro_rules | `(tactic| walk_at "ne") => `(tactic| first
  | assumption | (apply Ne.symm; assumption) | exact ne_nn (by assumption) (by walk_at "hq") | exact ne_nn' (by assumption) (by walk_at "hq"))
local macro_rules | `(tactic| walk_at "hp") => `(tactic| first
  | assumption
  | exact upd_same
  | exact (upd_ne (by walk_at "ne")).trans (by walk_at "hp")
  | exact same_at (by assumption) (by walk_at "hp")
  | exact ex_at (by assumption) (by walk_at "ne") (by walk_at "hp"))
local macro_rules | `(tactic| walk_at "sm") => `(tactic| first
  | assumption
  | exact Same.refl _
  | exact same_new (by walk_at "sm") (by assumption)
  | exact same_mut (by walk_at "sm") (by assumption))
local macro_rules | `(tactic| walk_at "ex") => `(tactic| first
  | assumption
  | exact Ex.refl _ _
  | exact Ex.new (by walk_at "ex") (by assumption)
  | exact Ex.mut (by walk_at "ex") (by assumption)
  | exact Ex.at (by walk_at "ex"))
local macro_rules | `(tactic| walk_at "sa") => `(tactic| first
  | assumption
  | exact seq' (by assumption) (by walk_at "sm")
  | exact tup' (by assumption) (by walk_at "sm"))
local macro_rules | `(tactic| walk_at "sq") => `(tactic| first
  | assumption
  | exact seq' (by assumption) (by walk_at "sm")
  | exact tup' (by assumption) (by walk_at "sm")
  | exact sql (by walk_at "hp")
  | exact sqt (by walk_at "hp"))
local macro_rules | `(tactic| walk_at "tt") => `(tactic| first | (simp; done) | (simp; omega))
local macro_rules | `(tactic| walk_at "tf") => `(tactic| first
  | ((with_reducible show if _ = true then _ else _); refine i_T (by walk_at "tt") ?_)
  | ((with_reducible show if _ = true then _ else _); refine i_F (by walk_at "tt") ?_))
local macro_rules | `(tactic| walk_at "ix") => `(tactic| first
  | exact ixn (j := 0) (by simp)
  | exact ixn (j := 1) (by simp)
  | exact ixn (j := 2) (by simp)
  | exact ixn (j := 3) (by simp)
  | exact ixn (j := 4) (by simp)
  | exact ixn (j := 5) (by simp)
  | exact ixn (j := 6) (by simp)
  | exact ixn (j := 7) (by simp))
local macro_rules | `(tactic| walk_at "at") => `(tactic| first
  | exact atI_nat (j := 0) (by rfl)
  | exact atI_nat (j := 1) (by rfl)
  | exact atI_nat (j := 2) (by rfl)
  | exact atI_nat (j := 3) (by rfl)
  | exact atI_nat (j := 4) (by rfl)
  | exact atI_nat (j := 5) (by rfl)
  | exact atI_nat (j := 6) (by rfl)
  | exact atI_nat (j := 7) (by rfl))
local macro_rules | `(tactic| walk_at "rd1") => `(tactic| first
  | with_reducible refine c_seq ?_
  | with_reducible refine c_asg ?_
  | ((with_reducible refine c_gname ?_); try dsimp only [List.set])
  | with_reducible refine c_ret ?_
  | with_reducible refine c_ifs ?_
  | ((with_reducible show tVar _ _ _ _); refine c_var (by rfl) ?_)
  | with_reducible refine c_c ?_
  | with_reducible refine c_op ?_
  | with_reducible refine c_un ?_
  | with_reducible refine c_test ?_
  | with_reducible refine c_B ?_
  | with_reducible refine c_CB ?_
  | with_reducible refine c_cons ?_
  | with_reducible refine c_nil ?_
  | with_reducible refine c_call ?_
  | with_reducible refine c_lst ?_
  | with_reducible refine c_tup ?_
  | with_reducible refine c_drop ?_
  | with_reducible refine c_gsub ?_
  | with_reducible refine c_BM ?_
  | with_reducible refine c_BM0 ?_
  | with_reducible refine c_and ?_
  | with_reducible refine c_or ?_
  | with_reducible refine c_not ?_
  | with_reducible refine c_andV ?_
  | with_reducible refine c_orV ?_
  | with_reducible refine c_notV ?_
  | with_reducible refine c_if ?_
  | with_reducible refine c_chain ?_
  | with_reducible refine c_next ?_
  | with_reducible refine c_retN ?_
  | with_reducible refine c_yes ?_
  | ((with_reducible show rIn _ _ (V.bl _) _ _ _); first | refine r_inL (by walk_at "sq") rfl (flat_bl _) ?_ | refine r_inL (by walk_at "sq") rfl (by rfl) ?_)
  | with_reducible refine r_I0 ?_
  | with_reducible refine r_U ?_
  | with_reducible refine r_eqI ?_
  | with_reducible refine r_neI ?_
  | with_reducible refine r_eqB ?_
  | with_reducible refine r_neB ?_
  | with_reducible refine r_eqS ?_
  | with_reducible refine r_neS ?_
  | ((with_reducible show rIxL _ _ (V.int (OfNat.ofNat _)) _ _); refine r_ixL (by walk_at "sq") (by walk_at "at") ?_)
  | ((with_reducible show rIxT _ _ (V.int (OfNat.ofNat _)) _ _); refine r_ixT (by walk_at "sq") (by walk_at "at") ?_)
  | ((with_reducible show rI CMul _ _ _ _ _); refine r_I (by first | exact .inl ⟨by omega, by omega⟩ | exact .inr ⟨by omega, by omega⟩) ?_)
  | ((with_reducible show rI CDiv _ _ _ _ _); refine r_I ⟨by omega, by omega⟩ ?_)
  | ((with_reducible show rI (fun _ _ => _) _ _ _ _ _); refine r_I (by first | assumption | omega | decide) ?_)
  | with_reducible refine r_pow18 ?_
  | with_reducible refine r_pow17 ?_
  | ((with_reducible show rSetL _ _ _ _ _); refine r_setL (by walk_at "hp") (by walk_at "ix") ?_; try dsimp only [List.set]; try simp only [upd_upd])
  | ((with_reducible show tyV _ _ _ _ ∧ _); refine ⟨.inl ⟨rfl, _, by walk_at "sq"⟩, ?_⟩)
  | ((with_reducible show rPop _ _ _ _); refine r_pop (by walk_at "hp") ?_)
  | ((with_reducible show rAppend _ _ _ _); refine r_app (by walk_at "hp") (by first | assumption | exact smallLt (by omega) | exact smallLt (by simp <;> omega)) ?_)
  | ((with_reducible show _ ≤ sizeLine ∧ _); refine ⟨small (by simp), ?_⟩)
  | ((with_reducible show V.non = V.non ∧ _); refine ⟨rfl, ?_⟩)
  | with_reducible refine iteT ?_
  | with_reducible refine iteF ?_
  | with_reducible refine ⟨_, rfl, ?_⟩
  | with_reducible refine ⟨_, _, rfl, ?_⟩
  | with_reducible refine Or.inl ⟨_, rfl, ?_⟩
  | with_reducible refine Or.inr ⟨_, rfl, ?_⟩
  | ((with_reducible show ∃ _ _, [_] = [_] ∧ _); first
    | refine ⟨_, _, rfl, Or.inl (by walk_at "sa"), ?_⟩ | refine ⟨_, _, rfl, Or.inr (by walk_at "sa"), ?_⟩
    | refine ⟨_, _, rfl, Or.inl (by exact sql (by walk_at "hp")), ?_⟩ | refine ⟨_, _, rfl, Or.inr (by exact sqt (by walk_at "hp")), ?_⟩))
local macro_rules | `(tactic| walk_at "nw") => `(tactic| (intro _ _))
local macro_rules | `(tactic| walk_at "rdn") => `(tactic| repeat (first | walk_at "rd1" | ((with_reducible show ∀ _ : Addr, _ = none → _); intro _ _)))
local macro_rules | `(tactic| walk_at "rd") => `(tactic| repeat walk_at "rd1")

local macro_rules | `(tactic| walk_at "tp") => `(tactic| first
  | (with_reducible assumption)
  | with_reducible exact Tp.refl _
  | exact Tp.same (by walk_at "sm")
  | exact Tp.new (by walk_at "tp") (by with_reducible assumption)
  | exact Tp.lst (by walk_at "tp") (by walk_at "hp"))
local macro_rules | `(tactic| walk_at "rd1") => `(tactic| first
  | with_reducible refine c_sl ?_
  | with_reducible refine c_noPart ?_
  | with_reducible refine c_part ?_
  | ((with_reducible show rSlL _ _ _ _ _ _); refine r_slL (by walk_at "sq") ?_))
local macro_rules | `(tactic| walk_at "no") => `(tactic| ((with_reducible show if decide _ = true then _ else _); refine i_F (decide_eq_false (by decide +kernel)) ?_))
local macro_rules | `(tactic| walk_at "yes") => `(tactic| ((with_reducible show if decide _ = true then _ else _); refine i_T (decide_eq_true (by first | rfl | decide +kernel)) ?_))
local macro_rules | `(tactic| walk_at "wd") => `(tactic| repeat (first | walk_at "rd1" | walk_at "no" | walk_at "yes"))

/-! ### leaves, recipes, what they build -/
def spLeaf : Sp := fun vs H Q _ => ∃ (S L : Addr) (ns : List Int) (p : Addr) (qs : List Addr), vs = [.ref S, .ref p] ∧ Strm S L ns H ∧ Pool S H p qs ∧ 0 < qs.length ∧ qs.length ≤ 3 ∧
  ∀ (a : Addr) (s : Stp) H', Ex S H H' → Strm S L ns H' → H' a = some (.tup s.vals) → s.ok qs.length → s.need = 0 → Q (.ref a) H'
def spRecipe : Sp := fun vs H Q _ => ∃ (S L : Addr) (ns : List Int) (p : Addr) (qs : List Addr) (m : Int), vs = [.ref S, .ref p, .int m] ∧ Strm S L ns H ∧ Pool S H p qs ∧ 0 < qs.length ∧ qs.length ≤ 3 ∧ 0 < m ∧ m ≤ 1000 ∧
  ∀ q xs ss H', H q = none → Ex S H H' → Strm S L ns H' → H' q = some (.lst xs) → Stps qs.length H' xs ss → Valid ss → (exs ss).length = 1 → (ss.length : Int) ≤ m → Q (.ref q) H'
def spBuilt (K : PySem.W.Frag) : Sp := fun vs H Q _ => ∃ (q : Addr) (xs : List V) (ss : List Stp) (w : Nat), vs = [.ref q] ∧ SqL K H q xs ∧ Stps w H xs ss ∧ Valid ss ∧ (exs ss).length = 1 ∧ ss.length ≤ 1000 ∧
  ∀ v t m H', Same H H' → exs ss = [t] → PTr K w H' v t m → m ≤ ss.length → Q v H'
theorem pick6 {e : Int} (h0 : 0 ≤ e) (h1 : e < 6) : ∃ s : Str, atI [V.str "<", .str "<=", .str "=", .str "!=", .str ">=", .str ">"] e = some (.str s) ∧ s ∈ signs := by
  have : e = 0 ∨ e = 1 ∨ e = 2 ∨ e = 3 ∨ e = 4 ∨ e = 5 := by omega
  rcases this with rfl | rfl | rfl | rfl | rfl | rfl
  · exact ⟨"<", atI_nat (j := 0) rfl, by simp [signs]⟩
  · exact ⟨"<=", atI_nat (j := 1) rfl, by simp [signs]⟩
  · exact ⟨"=", atI_nat (j := 2) rfl, by simp [signs]⟩
  · exact ⟨"!=", atI_nat (j := 3) rfl, by simp [signs]⟩
  · exact ⟨">=", atI_nat (j := 4) rfl, by simp [signs]⟩
  · exact ⟨">", atI_nat (j := 5) rfl, by simp [signs]⟩
theorem pickJ {e : Int} (h0 : 0 ≤ e) (h1 : e < 2) : ∃ b : Bool, atI [V.str "both", .str "either"] e = some (.str (jw b)) := by
  have : e = 0 ∨ e = 1 := by omega
  rcases this with rfl | rfl
  · exact ⟨false, atI_nat (j := 0) rfl⟩
  · exact ⟨true, atI_nat (j := 1) rfl⟩
theorem pickN {e : Int} (h0 : 0 ≤ e) (h1 : e < 2) : ∃ (s : Stp) (x : Str), atI [V.str "negation", .str "untrue"] e = some (.str x) ∧ s.vals = [.str x] ∧ (s = .neg ∨ s = .unt) := by
  have : e = 0 ∨ e = 1 := by omega
  rcases this with rfl | rfl
  · exact ⟨.neg, _, atI_nat (j := 0) rfl, rfl, .inl rfl⟩
  · exact ⟨.unt, _, atI_nat (j := 1) rfl, rfl, .inr rfl⟩
theorem need_u {s : Stp} (h : s = .neg ∨ s = .unt) : s.need = 1 := by
  rcases h with rfl | rfl <;> rfl
theorem ok_u {w : Nat} {s : Stp} (h : s = .neg ∨ s = .unt) : s.ok w := by
  rcases h with rfl | rfl <;> trivial
theorem len_u {ts : List Tr} {s : Stp} (h : s = .neg ∨ s = .unt) (hl : 1 ≤ ts.length) : (ex1 ts s).length = ts.length := by
  obtain ⟨us, t, rfl⟩ := snocT hl
  rcases h with rfl | rfl
  · rw [ex1_neg]
    simp
  · rw [ex1_unt]
    simp
theorem len_0 {ts : List Tr} {s : Stp} (h : s.need = 0) : (ex1 ts s).length = ts.length + 1 := by
  cases s with
  | cmp => simp [ex1]
  | mis => simp [ex1]
  | neg => simp [Stp.need] at h
  | unt => simp [Stp.need] at h
  | jn e k =>
    simp only [Stp.need] at h
    subst h
    simp [ex1]
theorem len_j {ts : List Tr} {e : Bool} {k : Nat} (h : k ≤ ts.length) : (ex1 ts (.jn e k)).length = ts.length + 1 - k := by
  simp [ex1]
  omega
section
variable {P : Program} {w : World} {K : PySem.W.Frag} {mg : Str → Option Value} {base : Heap}
theorem ok_leaf (T : Txt K mg) : FnOk P w K mg base CX0 3 T.a_leaf T.d_leaf ["_law_stream_here", "_law_pool_here"] (spLeaf) := by
  refine T.F_leaf.ok sc__law_leaf (fun vs H Q E h => ?_) (fun cdv A outer s H vs Q E hr h => ⟨_, (pss_cons (ps_set (i := 2) sc__law_leaf.nd rfl (.inl rfl) (pe_call (ok_draw T) (hr.mono (by decide)) (by rfl) T.g_draw T.F_draw.kp T.b_draw .nil pass0 (pa_cons (pv 0) (pa_cons pe_int pa_nil))))
      (pss_cons (ps_if (pt_cmpR op_eq (pv 2) pe_int (nomark _))
      (pss_one (ps_ret (pe_tup (pa_cons (pe_ix ix_list (pe_lst (pa_cons pe_str (pa_cons pe_str pa_nil))) (pe_call (ok_draw T) (hr.mono (by decide)) (by rfl) T.g_draw T.F_draw.kp T.b_draw .nil pass0 (pa_cons (pv 0) (pa_cons pe_int pa_nil))) (fun _ _ => rfl)) (pa_cons pe_int pa_nil)))))
      pss_nil)
      (pss_cons (ps_set (i := 3) sc__law_leaf.nd rfl (.inl rfl) (pe_call (ok_draw T) (hr.mono (by decide)) (by rfl) T.g_draw T.F_draw.kp T.b_draw .nil pass0 (pa_cons (pv 0) (pa_cons (pe_callB call_len_seq (by rfl) T.z_len PySem.boot_len (pa_cons (pv 1) pa_nil)) pa_nil))))
      (pss_cons (ps_if (pt_cmpR op_eq (pv 2) pe_int (nomark _))
      (pss_one (ps_ret (pe_tup (pa_cons pe_str (pa_cons (pv 3) pa_nil)))))
      pss_nil)
      (pss_cons (ps_set (i := 4) sc__law_leaf.nd rfl (.inl rfl) (pe_ix ix_list (pe_lst (pa_cons pe_str (pa_cons pe_str (pa_cons pe_str (pa_cons pe_str (pa_cons pe_str (pa_cons pe_str pa_nil))))))) (pe_call (ok_draw T) (hr.mono (by decide)) (by rfl) T.g_draw T.F_draw.kp T.b_draw .nil pass0 (pa_cons (pv 0) (pa_cons pe_int pa_nil))) (fun _ _ => rfl)))
      (pss_one (ps_ret (pe_tup (pa_cons (pv 4) (pa_cons (pv 3) (pa_cons (pe_ix ix_list (pe_ix ix_list (pv 1) (pv 3) (fun _ _ => rfl)) (pe_call (ok_draw T) (hr.mono (by decide)) (by rfl) T.g_draw T.F_draw.kp T.b_draw .nil pass0 (pa_cons (pv 0) (pa_cons (pe_callB call_len_seq (by rfl) T.z_len PySem.boot_len (pa_cons (pe_ix ix_list (pv 1) (pv 3) (fun _ _ => rfl)) pa_nil)) pa_nil))) (fun _ _ => rfl)) pa_nil))))))))))), ?_⟩)
  · first | (obtain ⟨rfl, _⟩ := h; rfl) | (obtain ⟨_, rfl, _⟩ := h; rfl) | (obtain ⟨_, _, rfl, _⟩ := h; rfl) | (obtain ⟨_, _, _, rfl, _⟩ := h; rfl) | (obtain ⟨_, _, _, _, rfl, _⟩ := h; rfl) | (obtain ⟨_, _, _, _, _, rfl, _⟩ := h; rfl) | (obtain ⟨_, _, _, _, _, _, rfl, _⟩ := h; rfl) | (obtain ⟨_, _, _, _, _, _, _, rfl, _⟩ := h; rfl) | (obtain ⟨_, _, _, _, _, _, _, _, rfl, _⟩ := h; rfl) | (obtain ⟨_, _, _, _, _, _, _, _, _, rfl, _⟩ := h; rfl) | (obtain ⟨_, _, _, _, _, _, _, _, _, _, rfl, _⟩ := h; rfl) | (obtain ⟨_, _, _, _, _, _, _, _, _, _, _, rfl, _⟩ := h; rfl) | (obtain ⟨_, _, _, _, _, _, _, _, _, _, _, _, rfl, _⟩ := h; rfl) | (obtain ⟨_, _, _, _, _, _, _, _, _, _, _, _, _, rfl, _⟩ := h; rfl) | (obtain ⟨_, _, _, _, _, _, _, _, _, _, _, _, _, _, rfl, _⟩ := h; rfl)
  · obtain ⟨S, L, ns, p, qs, rfl, st, pl, q0, q3, k⟩ := h
    try dsimp only [cxOf, Cx.nox, Cx.wish]
    refine st_of (σ := [some _, some _, none, none, none]) rfl ?_
    walk_at "rd"
    refine use_draw st (by decide) (by decide) (fun kd H1 k0 k1 x1 st1 => ?_)
    have pl1 := pl.ex x1
    have hp1 := pl1.at_
    walk_at "rd"
    refine i_d (fun hk => ?_) (fun hk => ?_)
    · walk_at "rd"
      intro y hy
      walk_at "rd"
      refine use_draw (st1.new hy) (by decide) (by decide) (fun e H2 e0 e1 x2 st2 => ?_)
      have hy2 := x2 _ _ (st1.neS hy) upd_same
      obtain ⟨b, hb⟩ := pickJ e0 e1
      walk_at "rd"
      refine r_ixL (sql hy2) hb ?_
      walk_at "rd"
      intro a ha
      exact k a (.jn b 0) _ (Ex.new ((x1.trans (Ex.new (Ex.refl _ _) hy)).trans x2) ha) (st2.new ha) upd_same trivial rfl
    · walk_at "rd"
      refine use_draw st1 (by rw [List.length_map]; omega) (by rw [List.length_map]; omega) (fun c H2 c0 c1 x2 st2 => ?_)
      rw [List.length_map] at c1
      have pl2 := pl1.ex x2
      have hp2 := pl2.at_
      obtain ⟨cn, rfl⟩ : ∃ cn : Nat, c = (cn : Int) := ⟨c.toNat, by omega⟩
      have hcn : cn < qs.length := by omega
      walk_at "rd"
      refine i_d (fun hk => ?_) (fun hk => ?_)
      · walk_at "rd"
        intro a ha
        exact k a (.mis cn) _ (Ex.new (x1.trans x2) ha) (st2.new ha) upd_same hcn rfl
      · walk_at "rd"
        intro y hy
        walk_at "rd"
        refine use_draw (st2.new hy) (by decide) (by decide) (fun e H3 e0 e1 x3 st3 => ?_)
        have hy3 := x3 _ _ (st2.neS hy) upd_same
        obtain ⟨sg, hsg, hin⟩ := pick6 e0 e1
        have x23 := (Ex.new (Ex.refl _ _) hy).trans x3
        have pl3 := pl2.ex x23
        have hp3 := pl3.at_
        walk_at "rd"
        refine r_ixL (sql hy3) hsg ?_
        walk_at "rd"
        have hq : (qs.map V.ref)[cn]? = some (.ref qs[cn]) := by
          rw [List.getElem?_map, List.getElem?_eq_getElem hcn]
          rfl
        refine r_ixL (sql hp3) (atI_nat hq) ?_
        walk_at "rd"
        refine r_ixL (sql hp3) (atI_nat hq) ?_
        obtain ⟨ms, nm, m0⟩ := pl3.each _ (List.getElem_mem hcn)
        have hms := nm.at_
        have hm8 := nm.len
        walk_at "rd"
        refine use_draw st3 (by rw [List.length_map]; omega) (by rw [List.length_map]; omega) (fun d H4 d0 d1 x4 st4 => ?_)
        rw [List.length_map] at d1
        have hdl : d.toNat < ms.length := by omega
        have hz := (nm.ex x4).get hdl
        have hms4 := (nm.ex x4).at_
        walk_at "rd"
        refine r_ixL (sql hms4) (at_of (j := d.toNat) (by omega) (map_at hdl)) ?_
        walk_at "rd"
        intro a ha
        exact k a (.cmp sg cn ms[d.toNat]) _ (Ex.new (((x1.trans x2).trans x23).trans x4) ha) (st4.new ha) upd_same ⟨hin, hcn, hz.1, hz.2⟩ rfl
theorem ok_recipe (T : Txt K mg) : FnOk P w K mg base CX0 4 T.a_recipe T.d_recipe ["_law_stream_here", "_law_pool_here", "_law_most"] (spRecipe) := by
  refine T.F_recipe.ok sc__law_recipe (fun vs H Q E h => ?_) (fun cdv A outer s H vs Q E hr h => ⟨_, (pss_cons (ps_set (i := 3) sc__law_recipe.nd rfl (.inl rfl) (pe_lst pa_nil))
      (pss_cons (ps_set (i := 4) sc__law_recipe.nd rfl (.inl rfl) pe_int)
      (pss_cons (ps_set (i := 5) sc__law_recipe.nd rfl (.inl rfl) (pe_op op_add pe_int (pe_call (ok_draw T) (hr.mono (by decide)) (by rfl) T.g_draw T.F_draw.kp T.b_draw .nil pass0 (pa_cons (pv 0) (pa_cons (pv 2) pa_nil)))))
      (pss_cons (ps_for PassesOwn.never rfl (pi_range1 (by rfl) T.z_range (pa_cons (pv 5) pa_nil)) (pg_name (i := 6) sc__law_recipe.nd rfl (.inl rfl))
      (pss_cons (ps_set (i := 7) sc__law_recipe.nd rfl (.inl rfl) (pe_call (ok_draw T) (hr.mono (by decide)) (by rfl) T.g_draw T.F_draw.kp T.b_draw .nil pass0 (pa_cons (pv 0) (pa_cons pe_int pa_nil))))
      (pss_cons (ps_set (i := 8) sc__law_recipe.nd rfl (.inl rfl) (pv 4))
      (Evl.pss_cut (ps_if (pt_cmpR op_lt (pe_op op_add (pv 6) pe_int) (pv 5) (nomark _))
      (pss_one (ps_set (i := 8) sc__law_recipe.nd rfl (.inl rfl) (pe_call (ok_draw T) (hr.mono (by decide)) (by rfl) T.g_draw T.F_draw.kp T.b_draw .nil pass0 (pa_cons (pv 0) (pa_cons (pe_op op_add (pv 4) pe_int) pa_nil)))))
      pss_nil)
      (pss_one (ps_if (pt_mid (PW.pt (pw_or (pt_cmpR op_eq (pv 4) pe_int (nomark _)) (pw_or1 (PW.pt (pw_and (pt_cmpR op_lt (pv 7) pe_int (nomark _)) (pw_and1 (pt_cmpR op_lt (pe_op op_add (pv 6) pe_int) (pv 5) (nomark _)))))))))
      (pss_cons (ps_expr (pe_bm PySem.F.plainAttrs_list PySem.F.slot_list_append PySem.F.type_list_append mt_append (pv 3) (pa_cons (pe_call (ok_leaf T) (hr.mono (by decide)) (by rfl) T.g_leaf T.F_leaf.kp T.b_leaf .nil pass0 (pa_cons (pv 0) (pa_cons (pv 1) pa_nil))) pa_nil)))
      (pss_one (ps_set (i := 4) sc__law_recipe.nd rfl (.inl rfl) (pe_op op_add (pv 4) pe_int))))
      (pss_one (ps_if (pt_mid (PW.pt (pw_and (pt_cmpR op_lt (pv 7) pe_int (nomark _)) (pw_and1 (PW.pt (pw_or (pt_cmpR op_lt (pe_op op_add (pv 6) pe_int) (pv 5) (nomark _)) (pw_or1 (pt_cmpR op_eq (pv 4) pe_int (nomark _)))))))))
      (pss_one (ps_expr (pe_bm PySem.F.plainAttrs_list PySem.F.slot_list_append PySem.F.type_list_append mt_append (pv 3) (pa_cons (pe_tup (pa_cons (pe_ix ix_list (pe_lst (pa_cons pe_str (pa_cons pe_str pa_nil))) (pe_op op_mod (pe_callTy call_int1 (by rfl) T.z_int (by decide +kernel) (pa_cons (pv 7) pa_nil)) pe_int) (fun _ _ => rfl)) pa_nil)) pa_nil))))
      (pss_cons (ps_expr (pe_bm PySem.F.plainAttrs_list PySem.F.slot_list_append PySem.F.type_list_append mt_append (pv 3) (pa_cons (pe_tup (pa_cons (pe_ix ix_list (pe_lst (pa_cons pe_str (pa_cons pe_str pa_nil))) (pe_op op_mod (pe_callTy call_int1 (by rfl) T.z_int (by decide +kernel) (pa_cons (pv 7) pa_nil)) pe_int) (fun _ _ => rfl)) (pa_cons (pv 8) pa_nil))) pa_nil)))
      (pss_one (ps_set (i := 4) sc__law_recipe.nd rfl (.inl rfl) (pe_op op_sub (pe_op op_add (pv 4) pe_int) (pv 8)))))))))))))
      (pss_one (ps_ret (pv 3))))))), ?_⟩)
  · first | (obtain ⟨rfl, _⟩ := h; rfl) | (obtain ⟨_, rfl, _⟩ := h; rfl) | (obtain ⟨_, _, rfl, _⟩ := h; rfl) | (obtain ⟨_, _, _, rfl, _⟩ := h; rfl) | (obtain ⟨_, _, _, _, rfl, _⟩ := h; rfl) | (obtain ⟨_, _, _, _, _, rfl, _⟩ := h; rfl) | (obtain ⟨_, _, _, _, _, _, rfl, _⟩ := h; rfl) | (obtain ⟨_, _, _, _, _, _, _, rfl, _⟩ := h; rfl) | (obtain ⟨_, _, _, _, _, _, _, _, rfl, _⟩ := h; rfl) | (obtain ⟨_, _, _, _, _, _, _, _, _, rfl, _⟩ := h; rfl) | (obtain ⟨_, _, _, _, _, _, _, _, _, _, rfl, _⟩ := h; rfl) | (obtain ⟨_, _, _, _, _, _, _, _, _, _, _, rfl, _⟩ := h; rfl) | (obtain ⟨_, _, _, _, _, _, _, _, _, _, _, _, rfl, _⟩ := h; rfl) | (obtain ⟨_, _, _, _, _, _, _, _, _, _, _, _, _, rfl, _⟩ := h; rfl) | (obtain ⟨_, _, _, _, _, _, _, _, _, _, _, _, _, _, rfl, _⟩ := h; rfl)
  · obtain ⟨S, L, ns, p, qs, m, rfl, st, pl, q0, q3, m0, m1, k⟩ := h
    try dsimp only [cxOf, Cx.nox, Cx.wish]
    refine st_of (σ := [some _, some _, some _, none, none, none, none, none, none]) rfl ?_
    walk_at "rd"
    intro q hq
    have nqS := st.neS hq
    have nqL := st.neL hq
    walk_at "rd"
    refine use_draw (st.new hq) (by omega) (by omega) (fun r H1 r0 r1 x1 st1 => ?_)
    obtain ⟨N, hN⟩ : ∃ N : Nat, 1 + r = (N : Int) := ⟨(1 + r).toNat, by omega⟩
    have hq1 := x1 _ _ nqS upd_same
    have x01 : Ex S H H1 := (Ex.new (Ex.refl _ _) hq).trans x1
    walk_at "rd"
    rw [hN]
    with_reducible refine c_rng1 ?_
    walk_at "rd"
    refine ⟨by omega, by omega, for_range (lo := 0) (n := N) (fun i σ G => ∃ (xs : List V) (ss : List Stp) (e6 e7 e8 : Option V), σ = [some (.ref S), some (.ref p), some (.int m), some (.ref q), some (.int ((exs ss).length : Int)), some (.int (N : Int)), e6, e7, e8] ∧
      Strm S L ns G ∧ Ex S H G ∧ G q = some (.lst xs) ∧ Stps qs.length G xs ss ∧ Valid ss ∧ ss.length = i ∧ (exs ss).length ≤ i ∧ (i = N → (exs ss).length = 1)) ?_ ?_ ?_⟩
    · exact ⟨[], [], none, none, none, rfl, st1, x01, hq1, .nil, .nil, rfl, Nat.zero_le _, fun h => by omega⟩
    · rintro i σ G hi ⟨xs, ss, e6, e7, e8, rfl, stG, xG, gq, sp, va, hlen, hd, _⟩
      have hxl : xs.length = i := by rw [sp.len, hlen]
      walk_at "rd"
      refine use_draw stG (by decide) (by decide) (fun kd G1 k0 k1 x1 st1 => ?_)
      walk_at "rd"
      refine ⟨fun σ' G' => ∃ many : Nat, σ' = [some (.ref S), some (.ref p), some (.int m), some (.ref q), some (.int ((exs ss).length : Int)), some (.int (N : Int)), some (.int (0 + (i : Int))), some (.int kd), some (.int (many : Int))] ∧
        Strm S L ns G' ∧ Ex S G G' ∧ many ≤ (exs ss).length ∧ (i + 1 = N → many = (exs ss).length), ?_, ?_⟩
      · walk_at "rd"
        refine i_d (fun hk => ?_) (fun hk => ?_)
        · walk_at "rd"
          refine use_draw st1 (by omega) (by omega) (fun d G2 d0 d1 x2 st2 => ?_)
          walk_at "rd"
          exact ⟨d.toNat, by rw [Int.toNat_of_nonneg d0], st2, x1.trans x2, by omega, fun h => by omega⟩
        · walk_at "rd"
          exact ⟨st1, x1, Nat.le_refl _, fun _ => rfl⟩
      · rintro σ' G2 ⟨many, rfl, st2, x2, hm1, hm2⟩
        have g2 := x2 _ _ nqS gq
        have tp2 : Tp G G2 := by
          obtain ⟨⟨_, _, _, e, _⟩, _⟩ := stG
          exact Tp.ex x2 e
        have sp2 := sp.keep tp2
        have fin : ∀ (G3 : Hp) (a : Addr) (s : Stp) (dp : Int), Ex S G2 G3 → Strm S L ns G3 → G3 a = some (.tup s.vals) → s.ok qs.length → s.need ≤ (exs ss).length → (ex1 (exs ss) s).length ≤ i + 1 → (i + 1 = N → (ex1 (exs ss) s).length = 1) → dp = ((ex1 (exs ss) s).length : Int) →
            ∃ (xs' : List V) (ss' : List Stp) (e6 e7 e8 : Option V), [some (V.ref S), some (V.ref p), some (V.int m), some (V.ref q), some (V.int dp), some (V.int (N : Int)), some (V.int (0 + (i : Int))), some (V.int kd), some (V.int (many : Int))] = [some (.ref S), some (.ref p), some (.int m), some (.ref q), some (.int ((exs ss').length : Int)), some (.int (N : Int)), e6, e7, e8] ∧
              Strm S L ns (upd G3 q (.lst (xs ++ [.ref a]))) ∧ Ex S H (upd G3 q (.lst (xs ++ [.ref a]))) ∧ (upd G3 q (.lst (xs ++ [.ref a]))) q = some (.lst xs') ∧ Stps qs.length (upd G3 q (.lst (xs ++ [.ref a]))) xs' ss' ∧ Valid ss' ∧ ss'.length = i + 1 ∧ (exs ss').length ≤ i + 1 ∧ (i + 1 = N → (exs ss').length = 1) := by
          intro G3 a s dp x3 st3 ha hs hn h1 h2 h3
          have g3 := x3 _ _ nqS g2
          have naq : a ≠ q := fun z => by
            subst z
            rw [ha] at g3
            cases Option.some.inj g3
          have tp3 : Tp G2 G3 := by
            obtain ⟨⟨_, _, _, e, _⟩, _⟩ := st2
            exact Tp.ex x3 e
          refine ⟨xs ++ [.ref a], ss ++ [s], some (.int (0 + (i : Int))), some (.int kd), some (.int (many : Int)), ?_, st3.upd nqS nqL, Ex.mut ((xG.trans x2).trans x3) hq, upd_same, (sp2.keep (Tp.lst tp3 g3)).snoc ((upd_ne naq).trans ha) hs, va.snoc hn, by simp [hlen], by rw [exs_snoc]; exact h1, fun h => by rw [exs_snoc]; exact h2 h⟩
          rw [exs_snoc, h3]
        have hsz : xs.length < sizeLine := smallLt (by omega)
        walk_at "rd"
        refine c_mid ((exs ss).length = 0 ∨ (kd < 4 ∧ i + 1 < N)) ?_ (fun hA => ?_) (fun hA => ?_)
        · walk_at "rd"
          refine i_d (fun hk => ?_) (fun hk => ?_)
          · exact ⟨rfl, (decide_eq_true (by omega)).symm⟩
          walk_at "rd"
          refine i_d (fun hk2 => ?_) (fun hk2 => ?_)
          · walk_at "rd"
            exact ⟨rfl, by congr 1; apply propext; omega⟩
          · walk_at "rd"
            exact ⟨rfl, (decide_eq_false (by omega)).symm⟩
        · walk_at "rd"
          refine ⟨S, L, ns, p, qs, rfl, st2, (pl.ex xG).ex x2, q0, q3, fun a s G3 x3 st3 ha hs h0 => ?_⟩
          have g3 := x3 _ _ nqS g2
          walk_at "rd"
          exact fin G3 a s _ x3 st3 ha hs (by omega) (by rw [len_0 h0]; omega) (fun h => by rw [len_0 h0]; omega) (by rw [len_0 h0]; omega)
        · walk_at "rd"
          refine c_mid (kd < 6 ∧ (i + 1 < N ∨ (exs ss).length = 1)) ?_ (fun hB => ?_) (fun hB => ?_)
          · walk_at "rd"
            refine i_d (fun hk => ?_) (fun hk => ?_)
            · walk_at "rd"
              refine i_d (fun hk2 => ?_) (fun hk2 => ?_)
              · exact ⟨rfl, (decide_eq_true (by omega)).symm⟩
              · walk_at "rd"
                exact ⟨rfl, by congr 1; apply propext; omega⟩
            · exact ⟨rfl, (decide_eq_false (by omega)).symm⟩
          · walk_at "rd"
            intro y hy
            obtain ⟨s, sx, hs, hv, hu⟩ := pickN (e := kd % 2) (by omega) (by omega)
            walk_at "rd"
            refine r_ixL (sql upd_same) hs ?_
            walk_at "rd"
            intro a ha
            walk_at "rd"
            have hn := need_u hu
            have hl := len_u (ts := exs ss) hu (by omega)
            refine fin _ a s _ (Ex.new (Ex.new (Ex.refl _ _) hy) ha) ((st2.new hy).new ha) ?_ (ok_u hu) (by omega) (by omega) (fun h => by omega) (by omega)
            rw [upd_same, hv]
          · walk_at "rd"
            intro y hy
            obtain ⟨b, hb⟩ := pickJ (e := kd % 2) (by omega) (by omega)
            walk_at "rd"
            refine r_ixL (sql upd_same) hb ?_
            walk_at "rd"
            intro a ha
            walk_at "rd"
            have hl := len_j (ts := exs ss) (e := b) hm1
            exact fin _ a (.jn b many) _ (Ex.new (Ex.new (Ex.refl _ _) hy) ha) ((st2.new hy).new ha) upd_same trivial hm1 (by omega) (fun h => by have := hm2 h; omega) (by omega)
    · rintro σ G ⟨xs, ss, e6, e7, e8, rfl, stG, xG, gq, sp, va, hlen, hd, h1⟩
      walk_at "rd"
      exact k q xs ss G hq xG stG gq sp va (h1 rfl) (by omega)
end

end Tac2
section Tac3
/-! ### the words: "rd" goes on as far as it can; "hp" finds what stands at an address; "t" "f" a test that is known -/
local macro_rules | `(tactic| walk_at "h0") => `(tactic| first | (with_reducible assumption) | with_reducible exact upd_same)
local macro_rules | `(tactic| walk_at "n0") => `(tactic| first
  | (with_reducible assumption) | (apply Ne.symm; with_reducible assumption) | exact ne_nn (by with_reducible assumption) (by walk_at "h0") | exact ne_nn' (by with_reducible assumption) (by walk_at "h0"))
local macro_rules | `(tactic| walk_at "hq") => `(tactic| first
  | (with_reducible assumption) | with_reducible exact upd_same | exact (upd_ne (by walk_at "n0")).trans (by walk_at "hq"))
local macro_rules | `(tactic| walk_at "ne") => `(tactic| first
  | (with_reducible assumption) | (apply Ne.symm; with_reducible assumption) | exact ne_nn (by with_reducible assumption) (by walk_at "hq") | exact ne_nn' (by with_reducible assumption) (by walk_at "hq"))
local macro_rules | `(tactic| walk_at "sm") => `(tactic| first
  | (with_reducible assumption)
  | with_reducible exact Same.refl _
  | exact same_new (by walk_at "sm") (by with_reducible assumption)
  | exact same_mut (by walk_at "sm") (by with_reducible assumption))
local macro_rules | `(tactic| walk_at "hp") => `(tactic| first
  | (with_reducible assumption)
  | with_reducible exact upd_same
  | exact new_at (by with_reducible assumption) (by walk_at "sm")
  | exact old_at (by with_reducible assumption) (by walk_at "sm")
  | exact (upd_ne (by walk_at "ne")).trans (by walk_at "hp")
  | exact same_at (by with_reducible assumption) (by walk_at "hp")
  | exact ex_at (by with_reducible assumption) (by walk_at "ne") (by walk_at "hp"))
local macro_rules | `(tactic| walk_at "ex") => `(tactic| first
  | (with_reducible assumption)
  | exact Ex.refl _ _
  | exact Ex.new (by walk_at "ex") (by with_reducible assumption)
  | exact Ex.mut (by walk_at "ex") (by with_reducible assumption)
  | exact Ex.at (by walk_at "ex"))
local macro_rules | `(tactic| walk_at "sa") => `(tactic| first
  | (with_reducible assumption)
  | exact seq' (by with_reducible assumption) (by walk_at "sm")
  | exact tup' (by with_reducible assumption) (by walk_at "sm"))
local macro_rules | `(tactic| walk_at "sq") => `(tactic| first
  | (with_reducible assumption)
  | exact seq' (by with_reducible assumption) (by walk_at "sm")
  | exact tup' (by with_reducible assumption) (by walk_at "sm")
  | exact sql (by walk_at "hp")
  | exact sqt (by walk_at "hp"))
local macro_rules | `(tactic| walk_at "tt") => `(tactic| first | (simp; done) | (simp; omega))
local macro_rules | `(tactic| walk_at "tf") => `(tactic| first
  | ((with_reducible show if _ = true then _ else _); refine i_T (by walk_at "tt") ?_)
  | ((with_reducible show if _ = true then _ else _); refine i_F (by walk_at "tt") ?_))
local macro_rules | `(tactic| walk_at "ix") => `(tactic| first
  | exact ixn (j := 0) (by simp)
  | exact ixn (j := 1) (by simp)
  | exact ixn (j := 2) (by simp)
  | exact ixn (j := 3) (by simp)
  | exact ixn (j := 4) (by simp)
  | exact ixn (j := 5) (by simp)
  | exact ixn (j := 6) (by simp)
  | exact ixn (j := 7) (by simp))
local macro_rules | `(tactic| walk_at "at") => `(tactic| first
  | exact atI_nat (j := 0) (by rfl)
  | exact atI_nat (j := 1) (by rfl)
  | exact atI_nat (j := 2) (by rfl)
  | exact atI_nat (j := 3) (by rfl)
  | exact atI_nat (j := 4) (by rfl)
  | exact atI_nat (j := 5) (by rfl)
  | exact atI_nat (j := 6) (by rfl)
  | exact atI_nat (j := 7) (by rfl))
local macro_rules | `(tactic| walk_at "rd1") => `(tactic| first
  | with_reducible refine c_seq ?_
  | with_reducible refine c_asg ?_
  | ((with_reducible refine c_gname ?_); try dsimp only [List.set])
  | with_reducible refine c_ret ?_
  | with_reducible refine c_ifs ?_
  | ((with_reducible show tVar _ _ _ _); refine c_var (by rfl) ?_)
  | with_reducible refine c_c ?_
  | with_reducible refine c_op ?_
  | with_reducible refine c_un ?_
  | with_reducible refine c_test ?_
  | with_reducible refine c_B ?_
  | with_reducible refine c_CB ?_
  | with_reducible refine c_cons ?_
  | with_reducible refine c_nil ?_
  | with_reducible refine c_call ?_
  | with_reducible refine c_lst ?_
  | with_reducible refine c_tup ?_
  | with_reducible refine c_drop ?_
  | with_reducible refine c_gsub ?_
  | with_reducible refine c_BM ?_
  | with_reducible refine c_BM0 ?_
  | with_reducible refine c_and ?_
  | with_reducible refine c_or ?_
  | with_reducible refine c_not ?_
  | with_reducible refine c_andV ?_
  | with_reducible refine c_orV ?_
  | with_reducible refine c_notV ?_
  | with_reducible refine c_if ?_
  | with_reducible refine c_chain ?_
  | with_reducible refine c_next ?_
  | with_reducible refine c_retN ?_
  | with_reducible refine c_yes ?_
  | ((with_reducible show rIn _ _ (V.bl _) _ _ _); first | refine r_inL (by walk_at "sq") rfl (flat_bl _) ?_ | refine r_inL (by walk_at "sq") rfl (by rfl) ?_)
  | with_reducible refine r_I0 ?_
  | with_reducible refine r_U ?_
  | with_reducible refine r_eqI ?_
  | with_reducible refine r_neI ?_
  | with_reducible refine r_eqB ?_
  | with_reducible refine r_neB ?_
  | with_reducible refine r_eqS ?_
  | with_reducible refine r_neS ?_
  | ((with_reducible show rIxL _ _ (V.int (OfNat.ofNat _)) _ _); refine r_ixL (by walk_at "sq") (by walk_at "at") ?_)
  | ((with_reducible show rIxT _ _ (V.int (OfNat.ofNat _)) _ _); refine r_ixT (by walk_at "sq") (by walk_at "at") ?_)
  | ((with_reducible show rI CMul _ _ _ _ _); refine r_I (by first | exact .inl ⟨by omega, by omega⟩ | exact .inr ⟨by omega, by omega⟩) ?_)
  | ((with_reducible show rI CDiv _ _ _ _ _); refine r_I ⟨by omega, by omega⟩ ?_)
  | ((with_reducible show rI (fun _ _ => _) _ _ _ _ _); refine r_I (by first | assumption | omega | decide) ?_)
  | with_reducible refine r_pow18 ?_
  | with_reducible refine r_pow17 ?_
  | ((with_reducible show rSetL _ _ _ _ _); refine r_setL (by walk_at "hp") (by walk_at "ix") ?_; try dsimp only [List.set]; try simp only [upd_upd])
  | ((with_reducible show tyV _ _ _ _ ∧ _); refine ⟨.inl ⟨rfl, _, by walk_at "sq"⟩, ?_⟩)
  | ((with_reducible show rPop _ _ _ _); refine r_pop (by walk_at "hp") ?_)
  | ((with_reducible show rAppend _ _ _ _); refine r_app (by walk_at "hp") (by first | assumption | exact smallLt (by omega) | exact smallLt (by simp <;> omega)) ?_)
  | ((with_reducible show _ ≤ sizeLine ∧ _); refine ⟨small (by simp), ?_⟩)
  | ((with_reducible show V.non = V.non ∧ _); refine ⟨rfl, ?_⟩)
  | with_reducible refine iteT ?_
  | with_reducible refine iteF ?_
  | with_reducible refine ⟨_, rfl, ?_⟩
  | with_reducible refine ⟨_, _, rfl, ?_⟩
  | with_reducible refine Or.inl ⟨_, rfl, ?_⟩
  | with_reducible refine Or.inr ⟨_, rfl, ?_⟩
  | ((with_reducible show ∃ _ _, [_] = [_] ∧ _); first
    | refine ⟨_, _, rfl, Or.inl (by walk_at "sa"), ?_⟩ | refine ⟨_, _, rfl, Or.inr (by walk_at "sa"), ?_⟩
    | refine ⟨_, _, rfl, Or.inl (by exact sql (by walk_at "hp")), ?_⟩ | refine ⟨_, _, rfl, Or.inr (by exact sqt (by walk_at "hp")), ?_⟩))
local macro_rules | `(tactic| walk_at "nw") => `(tactic| (intro _ _))
local macro_rules | `(tactic| walk_at "rdn") => `(tactic| repeat (first | walk_at "rd1" | ((with_reducible show ∀ _ : Addr, _ = none → _); intro _ _)))
local macro_rules | `(tactic| walk_at "rd") => `(tactic| repeat walk_at "rd1")

local macro_rules | `(tactic| walk_at "tp") => `(tactic| first
  | (with_reducible assumption)
  | with_reducible exact Tp.refl _
  | exact Tp.same (by walk_at "sm")
  | exact Tp.new (by walk_at "tp") (by with_reducible assumption)
  | exact Tp.lst (by walk_at "tp") (by walk_at "hp"))
local macro_rules | `(tactic| walk_at "rd1") => `(tactic| first
  | with_reducible refine c_sl ?_
  | with_reducible refine c_noPart ?_
  | with_reducible refine c_part ?_
  | ((with_reducible show rSlL _ _ _ _ _ _); refine r_slL (by walk_at "sq") ?_))
local macro_rules | `(tactic| walk_at "no") => `(tactic| ((with_reducible show if decide _ = true then _ else _); refine i_F (decide_eq_false (by decide +kernel)) ?_))
local macro_rules | `(tactic| walk_at "yes") => `(tactic| ((with_reducible show if decide _ = true then _ else _); refine i_T (decide_eq_true (by first | rfl | decide +kernel)) ?_))
local macro_rules | `(tactic| walk_at "wd") => `(tactic| repeat (first | walk_at "rd1" | walk_at "no" | walk_at "yes"))

local macro_rules | `(tactic| walk_at "rd1") => `(tactic| first
  | with_reducible refine c_gcons ?_
  | with_reducible refine c_gnil ?_
  | with_reducible refine r_ipI ?_
  | ((with_reducible show tAug _ _ _ _ _ _); refine c_aug (by rfl) ?_; try dsimp only [List.set])
  | ((with_reducible show gTup _ _ _ _ _ _ _); refine c_gtup (by walk_at "sq") (by rfl) ?_))

/-! ### what is built -/
section
variable {P : Program} {w : World} {K : PySem.W.Frag} {mg : Str → Option Value} {base : Heap}
theorem ok_built (T : Txt K mg) : FnOk P w K mg base CX0 1 T.a_built T.d_built ["_law_steps"] (spBuilt K) := by
  refine T.F_built.ok sc__law_built (fun vs H Q E h => ?_) (fun cdv A outer s H vs Q E hr h => ⟨_, (pss_cons (ps_set (i := 1) sc__law_built.nd rfl (.inl rfl) (pe_lst pa_nil))
      (pss_cons (ps_for PassesOwn.never rfl (pi_list (pv 0)) (pg_name (i := 2) sc__law_built.nd rfl (.inl rfl))
      (pss_one (ps_if (PW.pt (pw_or (pt_cmpR op_eq (pe_ix ix_tup (pv 2) pe_int (fun _ _ => rfl)) pe_str (nomark _)) (pw_or1 (pt_cmpR op_eq (pe_ix ix_tup (pv 2) pe_int (fun _ _ => rfl)) pe_str (nomark _)))))
      (pss_cons (ps_set (i := 3) sc__law_built.nd rfl (.inl rfl) (pe_bm0 PySem.F.plainAttrs_list PySem.F.slot_list_pop PySem.F.type_list_pop mt_pop (pv 1)))
      (pss_one (ps_expr (pe_bm PySem.F.plainAttrs_list PySem.F.slot_list_append PySem.F.type_list_append mt_append (pv 1) (pa_cons (pe_tup (pa_cons (pe_ix ix_tup (pv 2) pe_int (fun _ _ => rfl)) (pa_cons (pv 3) pa_nil))) pa_nil)))))
      (pss_one (ps_if (PW.pt (pw_or (pt_cmpR op_eq (pe_ix ix_tup (pv 2) pe_int (fun _ _ => rfl)) pe_str (nomark _)) (pw_or1 (pt_cmpR op_eq (pe_ix ix_tup (pv 2) pe_int (fun _ _ => rfl)) pe_str (nomark _)))))
      (pss_cons (ps_set (i := 4) sc__law_built.nd rfl (.inl rfl) (pe_op op_sub (pe_callB call_len_seq (by rfl) T.z_len PySem.boot_len (pa_cons (pv 1) pa_nil)) (pe_ix ix_tup (pv 2) pe_int (fun _ _ => rfl))))
      (pss_one (ps_set (i := 1) sc__law_built.nd rfl (.inl rfl) (pe_op op_cat (pe_slice sl_list (pv 1) po_none (po_some (pv 4))) (pe_lst (pa_cons (pe_op op_catT (pe_tup (pa_cons (pe_ix ix_tup (pv 2) pe_int (fun _ _ => rfl)) pa_nil)) (pe_callTy call_tuple_of (by rfl) T.z_tuple (by decide +kernel) (pa_cons (pe_slice sl_list (pv 1) (po_some (pv 4)) po_none) pa_nil))) pa_nil))))))
      (pss_one (ps_expr (pe_bm PySem.F.plainAttrs_list PySem.F.slot_list_append PySem.F.type_list_append mt_append (pv 1) (pa_cons (pv 2) pa_nil)))))))))
      (pss_one (ps_ret (pe_ix ix_list (pv 1) pe_int (fun _ _ => rfl)))))), ?_⟩)
  · first | (obtain ⟨rfl, _⟩ := h; rfl) | (obtain ⟨_, rfl, _⟩ := h; rfl) | (obtain ⟨_, _, rfl, _⟩ := h; rfl) | (obtain ⟨_, _, _, rfl, _⟩ := h; rfl) | (obtain ⟨_, _, _, _, rfl, _⟩ := h; rfl) | (obtain ⟨_, _, _, _, _, rfl, _⟩ := h; rfl) | (obtain ⟨_, _, _, _, _, _, rfl, _⟩ := h; rfl) | (obtain ⟨_, _, _, _, _, _, _, rfl, _⟩ := h; rfl) | (obtain ⟨_, _, _, _, _, _, _, _, rfl, _⟩ := h; rfl) | (obtain ⟨_, _, _, _, _, _, _, _, _, rfl, _⟩ := h; rfl) | (obtain ⟨_, _, _, _, _, _, _, _, _, _, rfl, _⟩ := h; rfl) | (obtain ⟨_, _, _, _, _, _, _, _, _, _, _, rfl, _⟩ := h; rfl) | (obtain ⟨_, _, _, _, _, _, _, _, _, _, _, _, rfl, _⟩ := h; rfl) | (obtain ⟨_, _, _, _, _, _, _, _, _, _, _, _, _, rfl, _⟩ := h; rfl) | (obtain ⟨_, _, _, _, _, _, _, _, _, _, _, _, _, _, rfl, _⟩ := h; rfl)
  · obtain ⟨q, xs, ss, w, rfl, hS, sp, va, h1, hl, k⟩ := h
    try dsimp only [cxOf, Cx.nox, Cx.wish]
    refine st_of (σ := [some _, none, none, none, none]) rfl ?_
    have hxl := sp.len
    walk_at "rd"
    intro d0 hd0
    walk_at "rd"
    with_reducible refine c_forList ?_
    walk_at "rd"
    refine ⟨⟨_, same_new (Same.refl _) hd0 |>.seq hS⟩, for_list (xs := xs) (fun i σ G => ∃ (d : Addr) (vs : List V) (m : Nat) (e2 e3 e4 : Option V), σ = [some (.ref q), some (.ref d), e2, e3, e4] ∧ Same H G ∧ H d = none ∧ G d = some (.lst vs) ∧ PTrs K w G vs (exs (ss.take i)) m ∧ m ≤ i) ?_ ?_ ?_ ?_⟩
    · exact ⟨d0, [], 0, none, none, none, rfl, same_new (Same.refl _) hd0, hd0, upd_same, .nil, Nat.le_refl _⟩
    · rintro i σ G _ ⟨_, _, _, _, _, _, _, sm, _⟩
      exact sm.seq hS
    · rintro i x σ G hi ⟨d, vs, m, e2, e3, e4, rfl, sm, hd, gd, pt, hm⟩
      obtain ⟨s, a, hs, rfl, ha0, ok⟩ := sp.get hi
      have ha := sm _ _ ha0
      have hT := exs_take hs
      have hn := va i s hs
      have hil : i < ss.length := (List.getElem?_eq_some_iff.mp hs).1
      have hvl := pt.len
      have hle := pt.le
      have hsz : vs.length < sizeLine := smallLt (by omega)
      have leaf : ∀ t : Tr, exs (ss.take (i + 1)) = exs (ss.take i) ++ [t] → PTr K w G (.ref a) t 1 → ∃ (d' : Addr) (vs' : List V) (m' : Nat) (f2 f3 f4 : Option V), [some (V.ref q), some (V.ref d), some (V.ref a), e3, e4] = [some (.ref q), some (.ref d'), f2, f3, f4] ∧ Same H (upd G d (.lst (vs ++ [.ref a]))) ∧ H d' = none ∧ (upd G d (.lst (vs ++ [.ref a]))) d' = some (.lst vs') ∧ PTrs K w (upd G d (.lst (vs ++ [.ref a]))) vs' (exs (ss.take (i + 1))) m' ∧ m' ≤ i + 1 := by
        intro t ht pa
        have tp : Tp G (upd G d (.lst (vs ++ [.ref a]))) := Tp.lst (Tp.refl _) gd
        refine ⟨d, vs ++ [.ref a], m + 1, _, _, _, rfl, same_mut sm hd, hd, upd_same, ?_, by omega⟩
        rw [ht]
        exact (pt.keep tp).app (.one (pa.keep tp))
      cases s with
      | cmp s c n =>
        obtain ⟨o1, o2, o3, o4⟩ := ok
        have ha : G a = some (.tup [.str s, .int (c : Int), .int n]) := ha
        walk_at "rd"
        refine i_F (decide_eq_false (sign_ne o1 (by decide +kernel))) ?_
        walk_at "rd"
        refine i_F (decide_eq_false (sign_ne o1 (by decide +kernel))) ?_
        walk_at "rd"
        refine i_F (decide_eq_false (sign_ne o1 (by decide +kernel))) ?_
        walk_at "rd"
        refine i_F (decide_eq_false (sign_ne o1 (by decide +kernel))) ?_
        walk_at "rd"
        exact leaf (.cmp s c n) (by rw [hT]; rfl) (.cmp o1 o2 o3 o4 (sqt ha))
      | mis c =>
        have ha : G a = some (.tup [.str "missing", .int (c : Int)]) := ha
        walk_at "wd"
        exact leaf (.mis c) (by rw [hT]; rfl) (.mis ok (sqt ha))
      | neg =>
        have ha : G a = some (.tup [.str "negation"]) := ha
        obtain ⟨us, t, hu⟩ := snocT hn
        rw [hu] at pt hT
        obtain ⟨ys, zs, m1, m2, rfl, rfl, p1, p2⟩ := pt.split
        obtain ⟨v, rfl, pv⟩ := p2.sing
        walk_at "wd"
        intro b hb
        have hys : ys.length < sizeLine := smallLt (by simp at hvl; omega)
        walk_at "wd"
        have nbd : d ≠ b := ne_of_none upd_same hb
        have hbG : G b = none := by
          rw [upd_ne nbd.symm] at hb
          exact hb
        have tp : Tp G (upd (upd (upd G d (.lst ys)) b (.tup [.str "negation", v])) d (.lst (ys ++ [.ref b]))) := Tp.lst (Tp.new (Tp.lst (Tp.refl _) gd) hb) ((upd_ne nbd).trans upd_same)
        refine ⟨d, ys ++ [.ref b], m1 + (m2 + 1), some (.ref a), some v, e4, rfl, same_mut (same_new (same_mut sm hd) hb) hd, hd, upd_same, ?_, by omega⟩
        rw [hT, ex1_neg]
        exact (p1.keep tp).app (.one (.neg (sqt ((upd_ne nbd.symm).trans upd_same)) (pv.keep tp)))
      | unt =>
        have ha : G a = some (.tup [.str "untrue"]) := ha
        obtain ⟨us, t, hu⟩ := snocT hn
        rw [hu] at pt hT
        obtain ⟨ys, zs, m1, m2, rfl, rfl, p1, p2⟩ := pt.split
        obtain ⟨v, rfl, pv⟩ := p2.sing
        walk_at "wd"
        intro b hb
        have hys : ys.length < sizeLine := smallLt (by simp at hvl; omega)
        walk_at "wd"
        have nbd : d ≠ b := ne_of_none upd_same hb
        have tp : Tp G (upd (upd (upd G d (.lst ys)) b (.tup [.str "untrue", v])) d (.lst (ys ++ [.ref b]))) := Tp.lst (Tp.new (Tp.lst (Tp.refl _) gd) hb) ((upd_ne nbd).trans upd_same)
        refine ⟨d, ys ++ [.ref b], m1 + (m2 + 1), some (.ref a), some v, e4, rfl, same_mut (same_new (same_mut sm hd) hb) hd, hd, upd_same, ?_, by omega⟩
        rw [hT, ex1_unt]
        exact (p1.keep tp).app (.one (.unt (sqt ((upd_ne nbd.symm).trans upd_same)) (pv.keep tp)))
      | jn e c =>
        have ha : G a = some (.tup [.str (jw e), .int (c : Int)]) := ha
        obtain ⟨us, ws, hu, hws⟩ := splitT (show c ≤ (exs (ss.take i)).length from hn)
        subst hws
        rw [hu] at pt hT
        obtain ⟨ys, zs, m1, m2, rfl, rfl, p1, p2⟩ := pt.split
        have hzl := p2.len
        have hyl := p1.len
        rw [ex1_jn] at hT
        have hr : ((ys ++ zs).length : Int) - (ws.length : Int) = (ys.length : Int) := by
          rw [List.length_append]
          omega
        have hb1 : ys.length ≤ 1000 := by rw [List.length_append] at hvl; omega
        have hb2 : zs.length ≤ 1000 := by rw [List.length_append] at hvl; omega
        cases e
        all_goals
          walk_at "wd"
          intro p1' hp1
          rw [cut_to hr]
          walk_at "wd"
          intro p2' hp2
          walk_at "wd"
          intro p3 hp3
          rw [cut_from hr]
          walk_at "wd"
          refine ⟨p3, _, rfl, .inl ⟨sql upd_same, fun p4 hp4 => ?_⟩⟩
          walk_at "wd"
          refine r_catT (xs := [.str (jw _)]) (ys := zs) (sqt (by walk_at "hp")) (sqt upd_same) (List.cons_ne_nil _ _) (small (by rw [List.length_singleton]; omega)) (fun hz => ?_) (fun hz p5 hp5 => ?_)
          · subst hz
            have hw0 : ws = [] := List.eq_nil_of_length_eq_zero hzl.symm
            subst hw0
            walk_at "wd"
            intro p6 hp6
            walk_at "wd"
            refine r_cat (xs := ys) (ys := [_]) (by walk_at "hp") upd_same (small (by rw [List.length_singleton]; omega)) (fun p7 hp7 => ?_)
            walk_at "wd"
            refine ⟨p7, _, m1 + (m2 + 1), some (.ref a), e3, some (.int _), rfl, by walk_at "sm", Same.free (by walk_at "sm") hp7, upd_same, ?_, by omega⟩
            rw [hT]
            exact (p1.keep (by walk_at "tp")).app (.one (.jn (sqt (by walk_at "hp")) (p2.keep (by walk_at "tp"))))
          · walk_at "wd"
            intro p6 hp6
            walk_at "wd"
            refine r_cat (xs := ys) (ys := [_]) (by walk_at "hp") upd_same (small (by rw [List.length_singleton]; omega)) (fun p7 hp7 => ?_)
            walk_at "wd"
            refine ⟨p7, _, m1 + (m2 + 1), some (.ref a), e3, some (.int _), rfl, by walk_at "sm", Same.free (by walk_at "sm") hp7, upd_same, ?_, by omega⟩
            rw [hT]
            exact (p1.keep (by walk_at "tp")).app (.one (.jn (show SqT K _ p5 ([.str (jw _)] ++ zs) from sqt (by walk_at "hp")) (p2.keep (by walk_at "tp"))))
    · rintro σ G ⟨d, vs, m, e2, e3, e4, rfl, sm, hd, gd, pt, hm⟩
      rw [hxl, List.take_length] at pt
      obtain ⟨t, ht⟩ := List.length_eq_one_iff.mp h1
      rw [ht] at pt
      obtain ⟨v, rfl, pv⟩ := pt.sing
      walk_at "rd"
      exact k v t m G sm ht pv (by omega)
end

/-! ### truths -/
theorem Leaf_cmp_none : True := trivial
def spCompares : Sp := fun vs H Q _ => ∃ (i : Int) (s : Str) (n : Int), vs = [.int i, .str s, .int n] ∧ Q (.bl (cmpI s i n)) H
def spCompTruth : Sp := fun vs H Q _ => ∃ (v : V) (s : Str) (n : Int), vs = [v, .str s, .int n] ∧ VNI v ∧ Q (tb (cmpO s v n)) H
def spCompared : Sp := fun vs H Q _ => ∃ (s : Str) (v : V) (n : Int), vs = [.str s, v, .int n] ∧ VNI v ∧ Q (tb (cmpO s v n)) H
def spJn (K : PySem.W.Frag) (e : Bool) : Sp := fun vs H Q _ => ∃ (a : Addr) (bs : List (Option Bool)), vs = [.ref a] ∧ SqL K H a (bs.map tb) ∧ Q (tb (jnv e bs)) H
def spNeg : Sp := fun vs H Q _ => ∃ (x : Option Bool), vs = [tb x] ∧ Q (tb (x.map not)) H
def spParts (K : PySem.W.Frag) : Sp := fun vs H Q _ => ∃ (v : V) (t : Tr) (w m : Nat), vs = [v] ∧ PTr K w H v t m ∧ m ≤ 1000 ∧ ∀ r us k H', Same H H' → SqT K H' r us → PTrs K w H' us (kids t) k → k + 1 ≤ m → Q (.ref r) H'
def spTruth (K : PySem.W.Frag) (fu : Nat) : Sp := fun vs H Q _ => ∃ (v : V) (r : Addr) (t : Tr) (w m : Nat) (us : List V), vs = [v, .ref r] ∧ PTr K w H v t m ∧ m ≤ fu ∧ fu ≤ 1000 ∧ SqT K H r us ∧ w ≤ us.length ∧ (∀ x ∈ us, VNI x) ∧ ∀ H', Same H H' → Q (tb (ev us t)) H'
def spHolds (K : PySem.W.Frag) (fu : Nat) : Sp := fun vs H Q _ => ∃ (v : V) (r : Addr) (t : Tr) (w m : Nat) (us : List V), vs = [v, .ref r] ∧ PTr K w H v t m ∧ m ≤ fu ∧ fu ≤ 1000 ∧ SqT K H r us ∧ w ≤ us.length ∧ (∀ x ∈ us, VNI x) ∧ ∀ H', Same H H' → Q (.bl (decide (ev us t = some true))) H'
theorem spTruth_zero {K : PySem.W.Frag} {vs : List V} {H : Hp} {Q : VK} {E : XK} (h : spTruth K 0 vs H Q E) : False := by
  obtain ⟨v, r, t, w, m, us, _, p, hm, _⟩ := h
  have := p.pos
  omega
theorem getD_at {us : List V} {c : Nat} (h : c < us.length) : us[c]? = some (us.getD c .non) := by
  rw [List.getD_eq_getElem?_getD, List.getElem?_eq_getElem h]
  rfl
theorem getD_vni {us : List V} {c : Nat} (h : c < us.length) (hv : ∀ x ∈ us, VNI x) : VNI (us.getD c .non) := by
  rw [List.getD_eq_getElem?_getD, List.getElem?_eq_getElem h]
  exact hv _ (List.getElem_mem h)
section
variable {P : Program} {w : World} {K : PySem.W.Frag} {mg : Str → Option Value} {base : Heap}
theorem ok_compares (T : Txt K mg) : FnOk P w K mg base CX0 1 T.a_compares T.d_compares ["value", "sign", "number"] (spCompares) := by
  refine T.F_compares.ok sc_compares (fun vs H Q E h => ?_) (fun cdv A outer s H vs Q E hr h => ⟨_, (pss_cons (ps_if (pt_cmpR op_eq (pv 1) pe_str (nomark _))
      (pss_one (ps_ret (pe_cmpR op_lt (pv 0) (pv 2) (nomark _))))
      pss_nil)
      (pss_cons (ps_if (pt_cmpR op_eq (pv 1) pe_str (nomark _))
      (pss_one (ps_ret (pe_cmpR op_le (pv 0) (pv 2) (nomark _))))
      pss_nil)
      (pss_cons (ps_if (pt_cmpR op_eq (pv 1) pe_str (nomark _))
      (pss_one (ps_ret (pe_cmpR op_eq (pv 0) (pv 2) (nomark _))))
      pss_nil)
      (pss_cons (ps_if (pt_cmpR op_eq (pv 1) pe_str (nomark _))
      (pss_one (ps_ret (pe_cmpR op_ne (pv 0) (pv 2) (nomark _))))
      pss_nil)
      (pss_cons (ps_if (pt_cmpR op_eq (pv 1) pe_str (nomark _))
      (pss_one (ps_ret (pe_cmpR op_ge (pv 0) (pv 2) (nomark _))))
      pss_nil)
      (pss_one (ps_ret (pe_cmpR op_gt (pv 0) (pv 2) (nomark _))))))))), ?_⟩)
  · first | (obtain ⟨rfl, _⟩ := h; rfl) | (obtain ⟨_, rfl, _⟩ := h; rfl) | (obtain ⟨_, _, rfl, _⟩ := h; rfl) | (obtain ⟨_, _, _, rfl, _⟩ := h; rfl) | (obtain ⟨_, _, _, _, rfl, _⟩ := h; rfl) | (obtain ⟨_, _, _, _, _, rfl, _⟩ := h; rfl) | (obtain ⟨_, _, _, _, _, _, rfl, _⟩ := h; rfl) | (obtain ⟨_, _, _, _, _, _, _, rfl, _⟩ := h; rfl) | (obtain ⟨_, _, _, _, _, _, _, _, rfl, _⟩ := h; rfl) | (obtain ⟨_, _, _, _, _, _, _, _, _, rfl, _⟩ := h; rfl) | (obtain ⟨_, _, _, _, _, _, _, _, _, _, rfl, _⟩ := h; rfl) | (obtain ⟨_, _, _, _, _, _, _, _, _, _, _, rfl, _⟩ := h; rfl) | (obtain ⟨_, _, _, _, _, _, _, _, _, _, _, _, rfl, _⟩ := h; rfl) | (obtain ⟨_, _, _, _, _, _, _, _, _, _, _, _, _, rfl, _⟩ := h; rfl) | (obtain ⟨_, _, _, _, _, _, _, _, _, _, _, _, _, _, rfl, _⟩ := h; rfl)
  · obtain ⟨i, s, n, rfl, k⟩ := h
    unfold cmpI at k
    try dsimp only [cxOf, Cx.nox, Cx.wish]
    refine st_of (σ := [some _, some _, some _]) rfl ?_
    walk_at "rd"
    refine i_d (fun e => ?_) (fun e => ?_)
    · rw [if_pos e] at k
      walk_at "rd"
      exact k
    rw [if_neg e] at k
    walk_at "rd"
    refine i_d (fun e => ?_) (fun e => ?_)
    · rw [if_pos e] at k
      walk_at "rd"
      exact k
    rw [if_neg e] at k
    walk_at "rd"
    refine i_d (fun e => ?_) (fun e => ?_)
    · rw [if_pos e] at k
      walk_at "rd"
      exact k
    rw [if_neg e] at k
    walk_at "rd"
    refine i_d (fun e => ?_) (fun e => ?_)
    · rw [if_pos e] at k
      walk_at "rd"
      exact k
    rw [if_neg e] at k
    walk_at "rd"
    refine i_d (fun e => ?_) (fun e => ?_)
    · rw [if_pos e] at k
      walk_at "rd"
      exact k
    rw [if_neg e] at k
    walk_at "rd"
    exact k
theorem ok_comparison_truth (T : Txt K mg) : FnOk P w K mg base CX0 2 T.a_comparison_truth T.d_comparison_truth ["value", "sign", "number"] (spCompTruth) := by
  refine T.F_comparison_truth.ok sc_comparison_truth (fun vs H Q E h => ?_) (fun cdv A outer s H vs Q E hr h => ⟨_, (pss_cons (ps_if (pt_cmpR op_isN (pv 0) pe_non (nomark _))
      (pss_one (ps_ret pe_non))
      pss_nil)
      (pss_one (ps_ret (pe_call (ok_compares T) (hr.mono (by decide)) (by rfl) T.g_compares T.F_compares.kp T.b_compares .nil pass0 (pa_cons (pv 0) (pa_cons (pv 1) (pa_cons (pv 2) pa_nil))))))), ?_⟩)
  · first | (obtain ⟨rfl, _⟩ := h; rfl) | (obtain ⟨_, rfl, _⟩ := h; rfl) | (obtain ⟨_, _, rfl, _⟩ := h; rfl) | (obtain ⟨_, _, _, rfl, _⟩ := h; rfl) | (obtain ⟨_, _, _, _, rfl, _⟩ := h; rfl) | (obtain ⟨_, _, _, _, _, rfl, _⟩ := h; rfl) | (obtain ⟨_, _, _, _, _, _, rfl, _⟩ := h; rfl) | (obtain ⟨_, _, _, _, _, _, _, rfl, _⟩ := h; rfl) | (obtain ⟨_, _, _, _, _, _, _, _, rfl, _⟩ := h; rfl) | (obtain ⟨_, _, _, _, _, _, _, _, _, rfl, _⟩ := h; rfl) | (obtain ⟨_, _, _, _, _, _, _, _, _, _, rfl, _⟩ := h; rfl) | (obtain ⟨_, _, _, _, _, _, _, _, _, _, _, rfl, _⟩ := h; rfl) | (obtain ⟨_, _, _, _, _, _, _, _, _, _, _, _, rfl, _⟩ := h; rfl) | (obtain ⟨_, _, _, _, _, _, _, _, _, _, _, _, _, rfl, _⟩ := h; rfl) | (obtain ⟨_, _, _, _, _, _, _, _, _, _, _, _, _, _, rfl, _⟩ := h; rfl)
  · obtain ⟨v, s, n, rfl, hv, k⟩ := h
    try dsimp only [cxOf, Cx.nox, Cx.wish]
    refine st_of (σ := [some _, some _, some _]) rfl ?_
    walk_at "rd"
    rcases hv with rfl | ⟨i, rfl⟩
    · walk_at "rd"
      walk_at "tf"
      walk_at "rd"
      exact k
    · walk_at "rd"
      walk_at "tf"
      walk_at "rd"
      exact ⟨i, s, n, rfl, k⟩
theorem ok_compared (T : Txt K mg) : FnOk P w K mg base CX0 1 T.a_compared T.d_compared ["_law_sign", "_law_value", "_law_number_here"] (spCompared) := by
  refine T.F_compared.ok sc__law_compared (fun vs H Q E h => ?_) (fun cdv A outer s H vs Q E hr h => ⟨_, (pss_cons (ps_if (pt_cmpR op_isN (pv 1) pe_non (nomark _))
      (pss_one (ps_ret pe_non))
      pss_nil)
      (pss_cons (ps_if (pt_cmpR op_eq (pv 0) pe_str (nomark _))
      (pss_one (ps_ret (pe_cmpR op_lt (pv 1) (pv 2) (nomark _))))
      pss_nil)
      (pss_cons (ps_if (pt_cmpR op_eq (pv 0) pe_str (nomark _))
      (pss_one (ps_ret (pe_cmpR op_le (pv 1) (pv 2) (nomark _))))
      pss_nil)
      (pss_cons (ps_if (pt_cmpR op_eq (pv 0) pe_str (nomark _))
      (pss_one (ps_ret (pe_cmpR op_eq (pv 1) (pv 2) (nomark _))))
      pss_nil)
      (pss_cons (ps_if (pt_cmpR op_eq (pv 0) pe_str (nomark _))
      (pss_one (ps_ret (pe_cmpR op_ne (pv 1) (pv 2) (nomark _))))
      pss_nil)
      (pss_cons (ps_if (pt_cmpR op_eq (pv 0) pe_str (nomark _))
      (pss_one (ps_ret (pe_cmpR op_ge (pv 1) (pv 2) (nomark _))))
      pss_nil)
      (pss_one (ps_ret (pe_cmpR op_gt (pv 1) (pv 2) (nomark _)))))))))), ?_⟩)
  · first | (obtain ⟨rfl, _⟩ := h; rfl) | (obtain ⟨_, rfl, _⟩ := h; rfl) | (obtain ⟨_, _, rfl, _⟩ := h; rfl) | (obtain ⟨_, _, _, rfl, _⟩ := h; rfl) | (obtain ⟨_, _, _, _, rfl, _⟩ := h; rfl) | (obtain ⟨_, _, _, _, _, rfl, _⟩ := h; rfl) | (obtain ⟨_, _, _, _, _, _, rfl, _⟩ := h; rfl) | (obtain ⟨_, _, _, _, _, _, _, rfl, _⟩ := h; rfl) | (obtain ⟨_, _, _, _, _, _, _, _, rfl, _⟩ := h; rfl) | (obtain ⟨_, _, _, _, _, _, _, _, _, rfl, _⟩ := h; rfl) | (obtain ⟨_, _, _, _, _, _, _, _, _, _, rfl, _⟩ := h; rfl) | (obtain ⟨_, _, _, _, _, _, _, _, _, _, _, rfl, _⟩ := h; rfl) | (obtain ⟨_, _, _, _, _, _, _, _, _, _, _, _, rfl, _⟩ := h; rfl) | (obtain ⟨_, _, _, _, _, _, _, _, _, _, _, _, _, rfl, _⟩ := h; rfl) | (obtain ⟨_, _, _, _, _, _, _, _, _, _, _, _, _, _, rfl, _⟩ := h; rfl)
  · obtain ⟨s, v, n, rfl, hv, k⟩ := h
    try dsimp only [cxOf, Cx.nox, Cx.wish]
    refine st_of (σ := [some _, some _, some _]) rfl ?_
    walk_at "rd"
    rcases hv with rfl | ⟨i, rfl⟩
    · walk_at "rd"
      walk_at "tf"
      walk_at "rd"
      exact k
    · have k : Q (V.bl (cmpI s i n)) H := k
      unfold cmpI at k
      walk_at "rd"
      walk_at "tf"
      walk_at "rd"
      refine i_d (fun e => ?_) (fun e => ?_)
      · rw [if_pos e] at k
        walk_at "rd"
        exact k
      rw [if_neg e] at k
      walk_at "rd"
      refine i_d (fun e => ?_) (fun e => ?_)
      · rw [if_pos e] at k
        walk_at "rd"
        exact k
      rw [if_neg e] at k
      walk_at "rd"
      refine i_d (fun e => ?_) (fun e => ?_)
      · rw [if_pos e] at k
        walk_at "rd"
        exact k
      rw [if_neg e] at k
      walk_at "rd"
      refine i_d (fun e => ?_) (fun e => ?_)
      · rw [if_pos e] at k
        walk_at "rd"
        exact k
      rw [if_neg e] at k
      walk_at "rd"
      refine i_d (fun e => ?_) (fun e => ?_)
      · rw [if_pos e] at k
        walk_at "rd"
        exact k
      rw [if_neg e] at k
      walk_at "rd"
      exact k
theorem ok_both_truth (T : Txt K mg) : FnOk P w K mg base CX0 1 T.a_both_truth T.d_both_truth ["truths"] (spJn K false) := by
  refine T.F_both_truth.ok sc_both_truth (fun vs H Q E h => ?_) (fun cdv A outer s H vs Q E hr h => ⟨_, (pss_cons (ps_if (pt_cmpR op_in_seq pe_bl (pv 0) (by rfl))
      (pss_one (ps_ret pe_bl))
      pss_nil)
      (pss_one (ps_ret (pe_ifExp (pt_cmpR op_in_seq pe_non (pv 0) (by rfl)) pe_non pe_bl)))), ?_⟩)
  · first | (obtain ⟨rfl, _⟩ := h; rfl) | (obtain ⟨_, rfl, _⟩ := h; rfl) | (obtain ⟨_, _, rfl, _⟩ := h; rfl) | (obtain ⟨_, _, _, rfl, _⟩ := h; rfl) | (obtain ⟨_, _, _, _, rfl, _⟩ := h; rfl) | (obtain ⟨_, _, _, _, _, rfl, _⟩ := h; rfl) | (obtain ⟨_, _, _, _, _, _, rfl, _⟩ := h; rfl) | (obtain ⟨_, _, _, _, _, _, _, rfl, _⟩ := h; rfl) | (obtain ⟨_, _, _, _, _, _, _, _, rfl, _⟩ := h; rfl) | (obtain ⟨_, _, _, _, _, _, _, _, _, rfl, _⟩ := h; rfl) | (obtain ⟨_, _, _, _, _, _, _, _, _, _, rfl, _⟩ := h; rfl) | (obtain ⟨_, _, _, _, _, _, _, _, _, _, _, rfl, _⟩ := h; rfl) | (obtain ⟨_, _, _, _, _, _, _, _, _, _, _, _, rfl, _⟩ := h; rfl) | (obtain ⟨_, _, _, _, _, _, _, _, _, _, _, _, _, rfl, _⟩ := h; rfl) | (obtain ⟨_, _, _, _, _, _, _, _, _, _, _, _, _, _, rfl, _⟩ := h; rfl)
  · obtain ⟨a, bs, rfl, hS, k⟩ := h
    try dsimp only [cxOf, Cx.nox, Cx.wish]
    refine st_of (σ := [some _]) rfl ?_
    walk_at "rd"
    refine r_inL hS rfl (flat_tb _) ?_
    rw [if_neg (by decide), show V.bl false = tb (some false) from rfl, in_tb]
    unfold jnv at k
    walk_at "rd"
    refine i_2 (fun e => ?_) (fun e => ?_)
    · rw [if_pos e] at k
      walk_at "rd"
      exact k
    · rw [e, if_neg (by decide)] at k
      walk_at "rd"
      refine r_inL hS rfl (flat_tb _) ?_
      rw [if_neg (by decide), show V.non = tb none from rfl, in_tb]
      walk_at "rd"
      refine i_2 (fun e => ?_) (fun e => ?_)
      · rw [if_pos e] at k
        walk_at "rd"
        exact k
      · rw [e, if_neg (by decide)] at k
        walk_at "rd"
        exact k
theorem ok_either_truth (T : Txt K mg) : FnOk P w K mg base CX0 1 T.a_either_truth T.d_either_truth ["truths"] (spJn K true) := by
  refine T.F_either_truth.ok sc_either_truth (fun vs H Q E h => ?_) (fun cdv A outer s H vs Q E hr h => ⟨_, (pss_cons (ps_if (pt_cmpR op_in_seq pe_bl (pv 0) (by rfl))
      (pss_one (ps_ret pe_bl))
      pss_nil)
      (pss_one (ps_ret (pe_ifExp (pt_cmpR op_in_seq pe_non (pv 0) (by rfl)) pe_non pe_bl)))), ?_⟩)
  · first | (obtain ⟨rfl, _⟩ := h; rfl) | (obtain ⟨_, rfl, _⟩ := h; rfl) | (obtain ⟨_, _, rfl, _⟩ := h; rfl) | (obtain ⟨_, _, _, rfl, _⟩ := h; rfl) | (obtain ⟨_, _, _, _, rfl, _⟩ := h; rfl) | (obtain ⟨_, _, _, _, _, rfl, _⟩ := h; rfl) | (obtain ⟨_, _, _, _, _, _, rfl, _⟩ := h; rfl) | (obtain ⟨_, _, _, _, _, _, _, rfl, _⟩ := h; rfl) | (obtain ⟨_, _, _, _, _, _, _, _, rfl, _⟩ := h; rfl) | (obtain ⟨_, _, _, _, _, _, _, _, _, rfl, _⟩ := h; rfl) | (obtain ⟨_, _, _, _, _, _, _, _, _, _, rfl, _⟩ := h; rfl) | (obtain ⟨_, _, _, _, _, _, _, _, _, _, _, rfl, _⟩ := h; rfl) | (obtain ⟨_, _, _, _, _, _, _, _, _, _, _, _, rfl, _⟩ := h; rfl) | (obtain ⟨_, _, _, _, _, _, _, _, _, _, _, _, _, rfl, _⟩ := h; rfl) | (obtain ⟨_, _, _, _, _, _, _, _, _, _, _, _, _, _, rfl, _⟩ := h; rfl)
  · obtain ⟨a, bs, rfl, hS, k⟩ := h
    try dsimp only [cxOf, Cx.nox, Cx.wish]
    refine st_of (σ := [some _]) rfl ?_
    walk_at "rd"
    refine r_inL hS rfl (flat_tb _) ?_
    rw [if_neg (by decide), show V.bl true = tb (some true) from rfl, in_tb]
    unfold jnv at k
    walk_at "rd"
    refine i_2 (fun e => ?_) (fun e => ?_)
    · rw [if_pos e] at k
      walk_at "rd"
      exact k
    · rw [e, if_neg (by decide)] at k
      walk_at "rd"
      refine r_inL hS rfl (flat_tb _) ?_
      rw [if_neg (by decide), show V.non = tb none from rfl, in_tb]
      walk_at "rd"
      refine i_2 (fun e => ?_) (fun e => ?_)
      · rw [if_pos e] at k
        walk_at "rd"
        exact k
      · rw [e, if_neg (by decide)] at k
        walk_at "rd"
        exact k
theorem ok_negation_truth (T : Txt K mg) : FnOk P w K mg base CX0 1 T.a_negation_truth T.d_negation_truth ["part"] (spNeg) := by
  refine T.F_negation_truth.ok sc_negation_truth (fun vs H Q E h => ?_) (fun cdv A outer s H vs Q E hr h => ⟨_, (pss_one (ps_ret (pe_ifExp (pt_cmpR op_isN (pv 0) pe_non (nomark _)) pe_non (pe_not (pv 0))))), ?_⟩)
  · first | (obtain ⟨rfl, _⟩ := h; rfl) | (obtain ⟨_, rfl, _⟩ := h; rfl) | (obtain ⟨_, _, rfl, _⟩ := h; rfl) | (obtain ⟨_, _, _, rfl, _⟩ := h; rfl) | (obtain ⟨_, _, _, _, rfl, _⟩ := h; rfl) | (obtain ⟨_, _, _, _, _, rfl, _⟩ := h; rfl) | (obtain ⟨_, _, _, _, _, _, rfl, _⟩ := h; rfl) | (obtain ⟨_, _, _, _, _, _, _, rfl, _⟩ := h; rfl) | (obtain ⟨_, _, _, _, _, _, _, _, rfl, _⟩ := h; rfl) | (obtain ⟨_, _, _, _, _, _, _, _, _, rfl, _⟩ := h; rfl) | (obtain ⟨_, _, _, _, _, _, _, _, _, _, rfl, _⟩ := h; rfl) | (obtain ⟨_, _, _, _, _, _, _, _, _, _, _, rfl, _⟩ := h; rfl) | (obtain ⟨_, _, _, _, _, _, _, _, _, _, _, _, rfl, _⟩ := h; rfl) | (obtain ⟨_, _, _, _, _, _, _, _, _, _, _, _, _, rfl, _⟩ := h; rfl) | (obtain ⟨_, _, _, _, _, _, _, _, _, _, _, _, _, _, rfl, _⟩ := h; rfl)
  · obtain ⟨x, rfl, k⟩ := h
    try dsimp only [cxOf, Cx.nox, Cx.wish]
    refine st_of (σ := [some _]) rfl ?_
    rcases x with _ | x
    · walk_at "rd"
      refine i_T (decide_eq_true rfl) ?_
      walk_at "rd"
      exact k
    · walk_at "rd"
      refine i_F (decide_eq_false fun z => nomatch z) ?_
      walk_at "rd"
      exact k
theorem ok_parts_of (T : Txt K mg) : FnOk P w K mg base CX0 1 T.a_parts_of T.d_parts_of ["predicate"] (spParts K) := by
  refine T.F_parts_of.ok sc_parts_of (fun vs H Q E h => ?_) (fun cdv A outer s H vs Q E hr h => ⟨_, (pss_cons (ps_if (PW.pt (pw_or (pt_cmpR op_in_seq (pe_ix ix_tup (pv 0) pe_int (fun _ _ => rfl)) (pe_glob (v := .ref T.c_SIGNS) rfl T.g_SIGNS rfl) (by rfl)) (pw_or1 (pt_cmpR op_eq (pe_ix ix_tup (pv 0) pe_int (fun _ _ => rfl)) pe_str (nomark _)))))
      (pss_one (ps_ret (pe_tup pa_nil)))
      pss_nil)
      (pss_one (ps_ret (pe_slice sl_tup (pv 0) (po_some pe_int) po_none)))), ?_⟩)
  · first | (obtain ⟨rfl, _⟩ := h; rfl) | (obtain ⟨_, rfl, _⟩ := h; rfl) | (obtain ⟨_, _, rfl, _⟩ := h; rfl) | (obtain ⟨_, _, _, rfl, _⟩ := h; rfl) | (obtain ⟨_, _, _, _, rfl, _⟩ := h; rfl) | (obtain ⟨_, _, _, _, _, rfl, _⟩ := h; rfl) | (obtain ⟨_, _, _, _, _, _, rfl, _⟩ := h; rfl) | (obtain ⟨_, _, _, _, _, _, _, rfl, _⟩ := h; rfl) | (obtain ⟨_, _, _, _, _, _, _, _, rfl, _⟩ := h; rfl) | (obtain ⟨_, _, _, _, _, _, _, _, _, rfl, _⟩ := h; rfl) | (obtain ⟨_, _, _, _, _, _, _, _, _, _, rfl, _⟩ := h; rfl) | (obtain ⟨_, _, _, _, _, _, _, _, _, _, _, rfl, _⟩ := h; rfl) | (obtain ⟨_, _, _, _, _, _, _, _, _, _, _, _, rfl, _⟩ := h; rfl) | (obtain ⟨_, _, _, _, _, _, _, _, _, _, _, _, _, rfl, _⟩ := h; rfl) | (obtain ⟨_, _, _, _, _, _, _, _, _, _, _, _, _, _, rfl, _⟩ := h; rfl)
  · obtain ⟨v, t, w, m, rfl, pt, hm, k⟩ := h
    try dsimp only [cxOf, Cx.nox, Cx.wish]
    refine st_of (σ := [some _]) rfl ?_
    cases pt with
    | cmp hs hc h0 h1 h =>
      walk_at "rd"
      refine r_inT (T.l_SIGNS _) rfl rfl ?_
      rw [if_neg (by decide), sign_in hs]
      walk_at "rd"
      intro r hr
      exact k r [] 0 _ (same_new (Same.refl _) hr) (sqt upd_same) .nil (by omega)
    | mis hc h =>
      walk_at "rd"
      refine r_inT (T.l_SIGNS _) rfl rfl ?_
      rw [if_neg (by decide), show inV (V.str "missing") [.str "<", .str "<=", .str "=", .str "!=", .str ">=", .str ">"] = false by decide +kernel]
      walk_at "wd"
      intro r hr
      exact k r [] 0 _ (same_new (Same.refl _) hr) (sqt upd_same) .nil (by omega)
    | neg h p =>
      walk_at "rd"
      refine r_inT (T.l_SIGNS _) rfl rfl ?_
      rw [if_neg (by decide), show inV (V.str "negation") [.str "<", .str "<=", .str "=", .str "!=", .str ">=", .str ">"] = false by decide +kernel]
      walk_at "wd"
      refine r_slT h (by simp [HT.sIx]) (fun q hq => ?_)
      exact k q _ _ _ (same_new (Same.refl _) hq) (sqt upd_same) (.one (p.keep (.new (.refl _) hq))) (by omega)
    | unt h p =>
      walk_at "rd"
      refine r_inT (T.l_SIGNS _) rfl rfl ?_
      rw [if_neg (by decide), show inV (V.str "untrue") [.str "<", .str "<=", .str "=", .str "!=", .str ">=", .str ">"] = false by decide +kernel]
      walk_at "wd"
      refine r_slT h (by simp [HT.sIx]) (fun q hq => ?_)
      exact k q _ _ _ (same_new (Same.refl _) hq) (sqt upd_same) (.one (p.keep (.new (.refl _) hq))) (by omega)
    | jn h p =>
      walk_at "rd"
      refine r_inT (T.l_SIGNS _) rfl rfl ?_
      rw [if_neg (by decide), jw_nin]
      walk_at "rd"
      refine i_F (decide_eq_false (jw_ne (by decide +kernel))) ?_
      walk_at "rd"
      refine r_slT h (by simp [HT.sIx]) (fun q hq => ?_)
      exact k q _ _ _ (same_new (Same.refl _) hq) (sqt (by rw [upd_same]; congr 2; exact cut_from (xs := [_]) rfl)) (p.keep (.new (.refl _) hq)) (by omega)
end

section
variable {P : Program} {w : World} {K : PySem.W.Frag} {mg : Str → Option Value} {base : Heap}
theorem ok_truth (T : Txt K mg) : ∀ fu : Nat, FnOk P w K mg base CX0 (fu + 3) T.a_truth T.d_truth ["predicate", "row"] (spTruth K fu) := by
  refine Nat.rec (motive := fun fu => FnOk P w K mg base CX0 (fu + 3) T.a_truth T.d_truth ["predicate", "row"] (spTruth K fu)) ⟨fun vs H Q E h => (spTruth_zero h).elim, fun _ _ _ _ _ _ _ _ _ _ _ _ _ h => (spTruth_zero h).elim⟩ (fun fu ih => ?_)
  refine T.F_truth.ok sc_truth (fun vs H Q E h => ?_) (fun cdv A outer s H vs Q E hr h => ⟨_, (pss_cons (ps_set (i := 2) sc_truth.nd rfl (.inl rfl) (pe_ix ix_tup (pv 0) pe_int (fun _ _ => rfl)))
      (pss_cons (ps_if (pt_cmpR op_in_seq (pv 2) (pe_glob (v := .ref T.c_SIGNS) rfl T.g_SIGNS rfl) (by rfl))
      (pss_one (ps_ret (pe_call (ok_comparison_truth T) (hr.mono (by omega)) (by rfl) T.g_comparison_truth T.F_comparison_truth.kp T.b_comparison_truth .nil pass0 (pa_cons (pe_ix ix_tup (pv 1) (pe_ix ix_tup (pv 0) pe_int (fun _ _ => rfl)) (fun _ _ => rfl)) (pa_cons (pv 2) (pa_cons (pe_ix ix_tup (pv 0) pe_int (fun _ _ => rfl)) pa_nil))))))
      pss_nil)
      (pss_cons (ps_if (pt_cmpR op_eq (pv 2) pe_str (nomark _))
      (pss_one (ps_ret (pe_cmpR op_isN (pe_ix ix_tup (pv 1) (pe_ix ix_tup (pv 0) pe_int (fun _ _ => rfl)) (fun _ _ => rfl)) pe_non (nomark _))))
      pss_nil)
      (pss_cons (ps_setLc (i := 3) (own := [("part", 4)]) (g := gName 4) (tt := tYes) rfl sc_truth.nd rfl rfl (sw_true rfl rfl rfl (by decide +kernel)) (pi_tup (pe_call (ok_parts_of T) (hr.mono (by omega)) (by rfl) T.g_parts_of T.F_parts_of.kp T.b_parts_of .nil pass0 (pa_cons (pv 0) pa_nil))) (blkOk_by (own := [("part", 4)]) (N := N_truth) (sc := defScope s_truth) (by decide +kernel)) (fun _ _ _ _ _ => pg_name (i := 4) sc_truth.nd rfl (Or.inl rfl)) (fun _ _ _ _ _ => pts_nil) (fun _ _ _ _ _ => (pe_call ih (hr.mono (by omega)) (by rfl) T.g_truth T.F_truth.kp T.b_truth .nil pass0 (pa_cons (pv 4) (pa_cons (pv 1) pa_nil)))))
      (pss_cons (ps_if (pt_cmpR op_eq (pv 2) pe_str (nomark _))
      (pss_one (ps_ret (pe_call (ok_both_truth T) (hr.mono (by omega)) (by rfl) T.g_both_truth T.F_both_truth.kp T.b_both_truth .nil pass0 (pa_cons (pv 3) pa_nil))))
      pss_nil)
      (pss_cons (ps_if (pt_cmpR op_eq (pv 2) pe_str (nomark _))
      (pss_one (ps_ret (pe_call (ok_either_truth T) (hr.mono (by omega)) (by rfl) T.g_either_truth T.F_either_truth.kp T.b_either_truth .nil pass0 (pa_cons (pv 3) pa_nil))))
      pss_nil)
      (pss_cons (ps_if (pt_cmpR op_eq (pv 2) pe_str (nomark _))
      (pss_one (ps_ret (pe_call (ok_negation_truth T) (hr.mono (by omega)) (by rfl) T.g_negation_truth T.F_negation_truth.kp T.b_negation_truth .nil pass0 (pa_cons (pe_ix ix_list (pv 3) pe_int (fun _ _ => rfl)) pa_nil))))
      pss_nil)
      (pss_one (ps_ret (pe_cmpR op_notW (pe_ix ix_list (pv 3) pe_int (fun _ _ => rfl)) pe_bl (nomark _))))))))))), ?_⟩)
  · first | (obtain ⟨rfl, _⟩ := h; rfl) | (obtain ⟨_, rfl, _⟩ := h; rfl) | (obtain ⟨_, _, rfl, _⟩ := h; rfl) | (obtain ⟨_, _, _, rfl, _⟩ := h; rfl) | (obtain ⟨_, _, _, _, rfl, _⟩ := h; rfl) | (obtain ⟨_, _, _, _, _, rfl, _⟩ := h; rfl) | (obtain ⟨_, _, _, _, _, _, rfl, _⟩ := h; rfl) | (obtain ⟨_, _, _, _, _, _, _, rfl, _⟩ := h; rfl) | (obtain ⟨_, _, _, _, _, _, _, _, rfl, _⟩ := h; rfl) | (obtain ⟨_, _, _, _, _, _, _, _, _, rfl, _⟩ := h; rfl) | (obtain ⟨_, _, _, _, _, _, _, _, _, _, rfl, _⟩ := h; rfl) | (obtain ⟨_, _, _, _, _, _, _, _, _, _, _, rfl, _⟩ := h; rfl) | (obtain ⟨_, _, _, _, _, _, _, _, _, _, _, _, rfl, _⟩ := h; rfl) | (obtain ⟨_, _, _, _, _, _, _, _, _, _, _, _, _, rfl, _⟩ := h; rfl) | (obtain ⟨_, _, _, _, _, _, _, _, _, _, _, _, _, _, rfl, _⟩ := h; rfl)
  · obtain ⟨v, r, t, w, m, us, rfl, pt, hm, hf, hr2, hw, hv, k⟩ := h
    try dsimp only [cxOf, Cx.nox, Cx.wish]
    refine st_of (σ := [some _, some _, none, none, none]) rfl ?_
    rcases pt.word with ⟨a, s, c, n, rfl, rfl, hs, hc, h0, h1, h⟩ | ⟨a, c, rfl, rfl, hc, h⟩ | ⟨a, x, vs, rfl, h, hx, hmi, hcase⟩
    · walk_at "rd"
      refine r_inT (T.l_SIGNS _) rfl rfl ?_
      rw [if_neg (by decide), sign_in hs]
      walk_at "rd"
      refine r_ixT hr2 (atI_nat (getD_at (Nat.lt_of_lt_of_le hc hw))) ?_
      walk_at "rd"
      exact ⟨_, _, _, rfl, getD_vni (Nat.lt_of_lt_of_le hc hw) hv, k _ (Same.refl _)⟩
    · walk_at "rd"
      refine r_inT (T.l_SIGNS _) rfl rfl ?_
      rw [if_neg (by decide), show inV (V.str "missing") [.str "<", .str "<=", .str "=", .str "!=", .str ">=", .str ">"] = false by decide +kernel]
      walk_at "wd"
      refine r_ixT hr2 (atI_nat (getD_at (Nat.lt_of_lt_of_le hc hw))) ?_
      walk_at "rd"
      exact k _ (Same.refl _)
    · walk_at "rd"
      refine r_inT (T.l_SIGNS _) rfl rfl ?_
      rw [if_neg (by decide), hx]
      walk_at "rd"
      refine i_F (decide_eq_false hmi) ?_
      walk_at "rd"
      with_reducible refine c_lcT ?_
      walk_at "rd"
      refine ⟨_, t, w, m, rfl, pt, by omega, fun r1 us1 k1 H1 s1 h1 p1 hk => ?_⟩
      walk_at "rd"
      have hul := p1.len
      have hule := p1.le
      refine ⟨⟨_, h1⟩, fun D hD => lc_tup (xs := us1) (fun i G => Same H1 G ∧ G D = some (.lst (((kids t).take i).map fun t => tb (ev us t)))) ?_ ?_ ?_ ?_⟩
      · exact ⟨same_new (Same.refl _) hD, upd_same⟩
      · rintro i G _ ⟨sG, _⟩
        exact tup' h1 sG
      · rintro i y G hi ⟨sG, gD⟩
        obtain ⟨t', k', hk', p', le⟩ := p1.get hi
        walk_at "rd"
        refine ⟨rfl, ?_⟩
        walk_at "rd"
        refine ⟨y, r, t', w, k', us, rfl, p'.keep (.same sG), by omega, by omega, tup' hr2 (s1.trans sG), hw, hv, fun H2 s2 => ?_⟩
        walk_at "rd"
        refine ⟨_, s2 _ _ gD, smallLt (by rw [List.length_map, List.length_take]; omega), same_mut (sG.trans s2) hD, ?_⟩
        rw [upd_same, List.take_add_one, hk']
        simp
      · rintro G ⟨sG, gD⟩
        rw [hul, List.take_length] at gD
        have sH := s1.trans sG
        walk_at "rd"
        rcases hcase with ⟨rfl, t', rfl⟩ | ⟨rfl, t', rfl⟩ | ⟨e, ts, rfl, rfl⟩
        · have gD : G D = some (.lst [tb (ev us t')]) := gD
          walk_at "wd"
          exact ⟨ev us t', rfl, k G sH⟩
        · have gD : G D = some (.lst [tb (ev us t')]) := gD
          walk_at "wd"
          refine r_notW (tb_or _) ?_
          rw [tb_true]
          exact k G sH
        · have gE : G D = some (.lst ((ts.map (ev us)).map tb)) := by rw [gD, List.map_map]; rfl
          have k := k G sH
          rw [ev_jn] at k
          cases e
          · walk_at "wd"
            exact ⟨D, _, rfl, sql gE, k⟩
          · walk_at "wd"
            exact ⟨D, _, rfl, sql gE, k⟩
theorem ok_holds (T : Txt K mg) : FnOk P w K mg base CX0 20 T.a_holds T.d_holds ["predicate", "row"] (spHolds K 16) := by
  refine T.F_holds.ok sc_holds (fun vs H Q E h => ?_) (fun cdv A outer s H vs Q E hr h => ⟨_, (pss_one (ps_ret (pe_cmpR op_isW (pe_call (ok_truth T (16)) (hr.mono (by decide)) (by rfl) T.g_truth T.F_truth.kp T.b_truth .nil pass0 (pa_cons (pv 0) (pa_cons (pv 1) pa_nil))) pe_bl (nomark _)))), ?_⟩)
  · first | (obtain ⟨rfl, _⟩ := h; rfl) | (obtain ⟨_, rfl, _⟩ := h; rfl) | (obtain ⟨_, _, rfl, _⟩ := h; rfl) | (obtain ⟨_, _, _, rfl, _⟩ := h; rfl) | (obtain ⟨_, _, _, _, rfl, _⟩ := h; rfl) | (obtain ⟨_, _, _, _, _, rfl, _⟩ := h; rfl) | (obtain ⟨_, _, _, _, _, _, rfl, _⟩ := h; rfl) | (obtain ⟨_, _, _, _, _, _, _, rfl, _⟩ := h; rfl) | (obtain ⟨_, _, _, _, _, _, _, _, rfl, _⟩ := h; rfl) | (obtain ⟨_, _, _, _, _, _, _, _, _, rfl, _⟩ := h; rfl) | (obtain ⟨_, _, _, _, _, _, _, _, _, _, rfl, _⟩ := h; rfl) | (obtain ⟨_, _, _, _, _, _, _, _, _, _, _, rfl, _⟩ := h; rfl) | (obtain ⟨_, _, _, _, _, _, _, _, _, _, _, _, rfl, _⟩ := h; rfl) | (obtain ⟨_, _, _, _, _, _, _, _, _, _, _, _, _, rfl, _⟩ := h; rfl) | (obtain ⟨_, _, _, _, _, _, _, _, _, _, _, _, _, _, rfl, _⟩ := h; rfl)
  · obtain ⟨v, r, t, w, m, us, rfl, pt, hm, hf, hr2, hw, hv, k⟩ := h
    try dsimp only [cxOf, Cx.nox, Cx.wish]
    refine st_of (σ := [some _, some _]) rfl ?_
    walk_at "rd"
    refine ⟨v, r, t, w, m, us, rfl, pt, hm, hf, hr2, hw, hv, fun H' s => ?_⟩
    walk_at "rd"
    refine r_isW (tb_or _) ?_
    rw [tb_true]
    exact k H' s
end

/-! ### the law's own judging -/
def spJoined (K : PySem.W.Frag) : Sp := fun vs H Q _ => ∃ (e : Bool) (a : Addr) (bs : List (Option Bool)), vs = [.str (jw e), .ref a] ∧ SqL K H a (bs.map tb) ∧ Q (tb (jnv e bs)) H
def spJudged (K : PySem.W.Frag) : Sp := fun vs H Q _ => ∃ (q r : Addr) (xs : List V) (ss : List Stp) (w : Nat) (us : List V), vs = [.ref q, .ref r] ∧ SqL K H q xs ∧ Stps w H xs ss ∧ Valid ss ∧ (exs ss).length = 1 ∧ ss.length ≤ 1000 ∧ SqT K H r us ∧ w ≤ us.length ∧ (∀ x ∈ us, VNI x) ∧
  ∀ t H', Same H H' → exs ss = [t] → Q (tb (ev us t)) H'
theorem tb_snoc (us : List V) (ts : List Tr) (t : Tr) : (ts ++ [t]).map (fun t => tb (ev us t)) = ts.map (fun t => tb (ev us t)) ++ [tb (ev us t)] := by
  rw [List.map_append]
  rfl
section
variable {P : Program} {w : World} {K : PySem.W.Frag} {mg : Str → Option Value} {base : Heap}
theorem ok_joined (T : Txt K mg) : FnOk P w K mg base CX0 1 T.a_joined T.d_joined ["_law_word", "_law_parts"] (spJoined K) := by
  refine T.F_joined.ok sc__law_joined (fun vs H Q E h => ?_) (fun cdv A outer s H vs Q E hr h => ⟨_, (pss_cons (ps_set (i := 2) sc__law_joined.nd rfl (.inl rfl) (pe_cmpR op_eq (pv 0) pe_str (nomark _)))
      (pss_cons (ps_if (pt_cmpR op_in_seq (pv 2) (pv 1) (by rfl))
      (pss_one (ps_ret (pv 2)))
      pss_nil)
      (pss_cons (ps_if (pt_cmpR op_in_seq pe_non (pv 1) (by rfl))
      (pss_one (ps_ret pe_non))
      pss_nil)
      (pss_one (ps_ret (pe_not (pv 2))))))), ?_⟩)
  · first | (obtain ⟨rfl, _⟩ := h; rfl) | (obtain ⟨_, rfl, _⟩ := h; rfl) | (obtain ⟨_, _, rfl, _⟩ := h; rfl) | (obtain ⟨_, _, _, rfl, _⟩ := h; rfl) | (obtain ⟨_, _, _, _, rfl, _⟩ := h; rfl) | (obtain ⟨_, _, _, _, _, rfl, _⟩ := h; rfl) | (obtain ⟨_, _, _, _, _, _, rfl, _⟩ := h; rfl) | (obtain ⟨_, _, _, _, _, _, _, rfl, _⟩ := h; rfl) | (obtain ⟨_, _, _, _, _, _, _, _, rfl, _⟩ := h; rfl) | (obtain ⟨_, _, _, _, _, _, _, _, _, rfl, _⟩ := h; rfl) | (obtain ⟨_, _, _, _, _, _, _, _, _, _, rfl, _⟩ := h; rfl) | (obtain ⟨_, _, _, _, _, _, _, _, _, _, _, rfl, _⟩ := h; rfl) | (obtain ⟨_, _, _, _, _, _, _, _, _, _, _, _, rfl, _⟩ := h; rfl) | (obtain ⟨_, _, _, _, _, _, _, _, _, _, _, _, _, rfl, _⟩ := h; rfl) | (obtain ⟨_, _, _, _, _, _, _, _, _, _, _, _, _, _, rfl, _⟩ := h; rfl)
  · obtain ⟨e, a, bs, rfl, hS, k⟩ := h
    try dsimp only [cxOf, Cx.nox, Cx.wish]
    refine st_of (σ := [some _, some _, none]) rfl ?_
    have he : decide (jw e = "either") = e := by
      cases e <;> decide +kernel
    walk_at "rd"
    rw [he]
    walk_at "rd"
    refine r_inL hS rfl (flat_tb _) ?_
    rw [if_neg (by decide), show V.bl e = tb (some e) from rfl, in_tb]
    unfold jnv at k
    walk_at "rd"
    refine i_2 (fun e1 => ?_) (fun e1 => ?_)
    · rw [if_pos e1] at k
      walk_at "rd"
      exact k
    · rw [e1, if_neg (by decide)] at k
      walk_at "rd"
      refine r_inL hS rfl (flat_tb _) ?_
      rw [if_neg (by decide), show V.non = tb none from rfl, in_tb]
      walk_at "rd"
      refine i_2 (fun e2 => ?_) (fun e2 => ?_)
      · rw [if_pos e2] at k
        walk_at "rd"
        exact k
      · rw [e2, if_neg (by decide)] at k
        walk_at "rd"
        exact k
theorem ok_judged (T : Txt K mg) : FnOk P w K mg base CX0 2 T.a_judged T.d_judged ["_law_steps", "_law_row_here"] (spJudged K) := by
  refine T.F_judged.ok sc__law_judged (fun vs H Q E h => ?_) (fun cdv A outer s H vs Q E hr h => ⟨_, (pss_cons (ps_set (i := 2) sc__law_judged.nd rfl (.inl rfl) (pe_lst pa_nil))
      (pss_cons (ps_for PassesOwn.never rfl (pi_list (pv 0)) (pg_name (i := 3) sc__law_judged.nd rfl (.inl rfl))
      (pss_one (ps_if (pt_cmpR op_eq (pe_ix ix_tup (pv 3) pe_int (fun _ _ => rfl)) pe_str (nomark _))
      (pss_one (ps_expr (pe_bm PySem.F.plainAttrs_list PySem.F.slot_list_append PySem.F.type_list_append mt_append (pv 2) (pa_cons (pe_cmpR op_isN (pe_ix ix_tup (pv 1) (pe_ix ix_tup (pv 3) pe_int (fun _ _ => rfl)) (fun _ _ => rfl)) pe_non (nomark _)) pa_nil))))
      (pss_one (ps_if (pt_cmpR op_eq (pe_ix ix_tup (pv 3) pe_int (fun _ _ => rfl)) pe_str (nomark _))
      (pss_cons (ps_set (i := 4) sc__law_judged.nd rfl (.inl rfl) (pe_bm0 PySem.F.plainAttrs_list PySem.F.slot_list_pop PySem.F.type_list_pop mt_pop (pv 2)))
      (pss_one (ps_expr (pe_bm PySem.F.plainAttrs_list PySem.F.slot_list_append PySem.F.type_list_append mt_append (pv 2) (pa_cons (pe_cmpR op_notW (pv 4) pe_bl (nomark _)) pa_nil)))))
      (pss_one (ps_if (pt_cmpR op_eq (pe_ix ix_tup (pv 3) pe_int (fun _ _ => rfl)) pe_str (nomark _))
      (pss_cons (ps_set (i := 4) sc__law_judged.nd rfl (.inl rfl) (pe_bm0 PySem.F.plainAttrs_list PySem.F.slot_list_pop PySem.F.type_list_pop mt_pop (pv 2)))
      (pss_cons (ps_if (pt_cmpR op_notN (pv 4) pe_non (nomark _))
      (pss_one (ps_set (i := 4) sc__law_judged.nd rfl (.inl rfl) (pe_not (pv 4))))
      pss_nil)
      (pss_one (ps_expr (pe_bm PySem.F.plainAttrs_list PySem.F.slot_list_append PySem.F.type_list_append mt_append (pv 2) (pa_cons (pv 4) pa_nil))))))
      (pss_one (ps_if (PW.pt (pw_or (pt_cmpR op_eq (pe_ix ix_tup (pv 3) pe_int (fun _ _ => rfl)) pe_str (nomark _)) (pw_or1 (pt_cmpR op_eq (pe_ix ix_tup (pv 3) pe_int (fun _ _ => rfl)) pe_str (nomark _)))))
      (pss_cons (ps_set (i := 5) sc__law_judged.nd rfl (.inl rfl) (pe_op op_sub (pe_callB call_len_seq (by rfl) T.z_len PySem.boot_len (pa_cons (pv 2) pa_nil)) (pe_ix ix_tup (pv 3) pe_int (fun _ _ => rfl))))
      (pss_one (ps_set (i := 2) sc__law_judged.nd rfl (.inl rfl) (pe_op op_cat (pe_slice sl_list (pv 2) po_none (po_some (pv 5))) (pe_lst (pa_cons (pe_call (ok_joined T) (hr.mono (by decide)) (by rfl) T.g_joined T.F_joined.kp T.b_joined .nil pass0 (pa_cons (pe_ix ix_tup (pv 3) pe_int (fun _ _ => rfl)) (pa_cons (pe_slice sl_list (pv 2) (po_some (pv 5)) po_none) pa_nil))) pa_nil))))))
      (pss_one (ps_expr (pe_bm PySem.F.plainAttrs_list PySem.F.slot_list_append PySem.F.type_list_append mt_append (pv 2) (pa_cons (pe_call (ok_compared T) (hr.mono (by decide)) (by rfl) T.g_compared T.F_compared.kp T.b_compared .nil pass0 (pa_cons (pe_ix ix_tup (pv 3) pe_int (fun _ _ => rfl)) (pa_cons (pe_ix ix_tup (pv 1) (pe_ix ix_tup (pv 3) pe_int (fun _ _ => rfl)) (fun _ _ => rfl)) (pa_cons (pe_ix ix_tup (pv 3) pe_int (fun _ _ => rfl)) pa_nil)))) pa_nil)))))))))))))
      (pss_one (ps_ret (pe_ix ix_list (pv 2) pe_int (fun _ _ => rfl)))))), ?_⟩)
  · first | (obtain ⟨rfl, _⟩ := h; rfl) | (obtain ⟨_, rfl, _⟩ := h; rfl) | (obtain ⟨_, _, rfl, _⟩ := h; rfl) | (obtain ⟨_, _, _, rfl, _⟩ := h; rfl) | (obtain ⟨_, _, _, _, rfl, _⟩ := h; rfl) | (obtain ⟨_, _, _, _, _, rfl, _⟩ := h; rfl) | (obtain ⟨_, _, _, _, _, _, rfl, _⟩ := h; rfl) | (obtain ⟨_, _, _, _, _, _, _, rfl, _⟩ := h; rfl) | (obtain ⟨_, _, _, _, _, _, _, _, rfl, _⟩ := h; rfl) | (obtain ⟨_, _, _, _, _, _, _, _, _, rfl, _⟩ := h; rfl) | (obtain ⟨_, _, _, _, _, _, _, _, _, _, rfl, _⟩ := h; rfl) | (obtain ⟨_, _, _, _, _, _, _, _, _, _, _, rfl, _⟩ := h; rfl) | (obtain ⟨_, _, _, _, _, _, _, _, _, _, _, _, rfl, _⟩ := h; rfl) | (obtain ⟨_, _, _, _, _, _, _, _, _, _, _, _, _, rfl, _⟩ := h; rfl) | (obtain ⟨_, _, _, _, _, _, _, _, _, _, _, _, _, _, rfl, _⟩ := h; rfl)
  · obtain ⟨q, r, xs, ss, w, us, rfl, hS, sp, va, h1, hl, hr2, hw, hv, k⟩ := h
    try dsimp only [cxOf, Cx.nox, Cx.wish]
    refine st_of (σ := [some _, some _, none, none, none, none]) rfl ?_
    have hxl := sp.len
    walk_at "rd"
    intro d0 hd0
    walk_at "rd"
    with_reducible refine c_forList ?_
    walk_at "rd"
    refine ⟨⟨_, same_new (Same.refl _) hd0 |>.seq hS⟩, for_list (xs := xs) (fun i σ G => ∃ (d : Addr) (e3 e4 e5 : Option V), σ = [some (.ref q), some (.ref r), some (.ref d), e3, e4, e5] ∧ Same H G ∧ H d = none ∧ G d = some (.lst ((exs (ss.take i)).map fun t => tb (ev us t))) ∧ (exs (ss.take i)).length ≤ i) ?_ ?_ ?_ ?_⟩
    · exact ⟨d0, none, none, none, rfl, same_new (Same.refl _) hd0, hd0, upd_same, Nat.le_refl _⟩
    · rintro i σ G _ ⟨_, _, _, _, _, sm, _⟩
      exact sm.seq hS
    · rintro i x σ G hi ⟨d, e3, e4, e5, rfl, sm, hd, gd, hle⟩
      obtain ⟨s, a, hs, rfl, ha0, ok⟩ := sp.get hi
      have ha := sm _ _ ha0
      have hT := exs_take hs
      have hn := va i s hs
      have hil : i < ss.length := (List.getElem?_eq_some_iff.mp hs).1
      have hsz : ((exs (ss.take i)).map fun t => tb (ev us t)).length < sizeLine := smallLt (by rw [List.length_map]; omega)
      have hrG := tup' hr2 sm
      cases s with
      | cmp s c n =>
        obtain ⟨o1, o2, o3, o4⟩ := ok
        have ha : G a = some (.tup [.str s, .int (c : Int), .int n]) := ha
        walk_at "rd"
        refine i_F (decide_eq_false (sign_ne o1 (by decide +kernel))) ?_
        walk_at "rd"
        refine i_F (decide_eq_false (sign_ne o1 (by decide +kernel))) ?_
        walk_at "rd"
        refine i_F (decide_eq_false (sign_ne o1 (by decide +kernel))) ?_
        walk_at "rd"
        refine i_F (decide_eq_false (sign_ne o1 (by decide +kernel))) ?_
        walk_at "rd"
        refine i_F (decide_eq_false (sign_ne o1 (by decide +kernel))) ?_
        walk_at "rd"
        refine r_ixT hrG (atI_nat (getD_at (Nat.lt_of_lt_of_le o2 hw))) ?_
        walk_at "rd"
        refine ⟨_, _, _, rfl, getD_vni (Nat.lt_of_lt_of_le o2 hw) hv, ?_⟩
        walk_at "rd"
        refine ⟨d, some (.ref a), e4, e5, rfl, same_mut sm hd, hd, ?_, ?_⟩
        · rw [upd_same, hT]
          exact congrArg (fun z => some (HO.lst z)) (tb_snoc us _ (.cmp s c n)).symm
        · rw [hT]
          simp [ex1]
          omega
      | mis c =>
        have ha : G a = some (.tup [.str "missing", .int (c : Int)]) := ha
        walk_at "wd"
        refine r_ixT hrG (atI_nat (getD_at (Nat.lt_of_lt_of_le ok hw))) ?_
        walk_at "wd"
        refine ⟨d, some (.ref a), e4, e5, rfl, same_mut sm hd, hd, ?_, ?_⟩
        · rw [upd_same, hT]
          exact congrArg (fun z => some (HO.lst z)) (tb_snoc us _ (.mis c)).symm
        · rw [hT]
          simp [ex1]
          omega
      | neg =>
        have ha : G a = some (.tup [.str "negation"]) := ha
        obtain ⟨us', t, hu⟩ := snocT hn
        rw [hu, ex1_neg] at hT
        rw [hu, tb_snoc] at gd hsz
        rw [hu] at hle
        have hle' : us'.length ≤ i := by simp at hle; omega
        have hys : (us'.map fun t => tb (ev us t)).length < sizeLine := smallLt (by rw [List.length_map]; omega)
        have hv2 : ev us (.neg t) = (ev us t).map not := by rw [ev]
        walk_at "wd"
        rcases hx : ev us t with _ | b
        · refine i_F (by simp [tb]) ?_
          walk_at "wd"
          refine ⟨d, some (.ref a), some .non, e5, rfl, same_mut (same_mut sm hd) hd, hd, ?_, by rw [hT]; simp; omega⟩
          rw [upd_same, hT, tb_snoc, hv2, hx]
          rfl
        · refine i_T (by simp [tb]) ?_
          walk_at "wd"
          refine ⟨d, some (.ref a), some (.bl (!b)), e5, rfl, same_mut (same_mut sm hd) hd, hd, ?_, by rw [hT]; simp; omega⟩
          rw [upd_same, hT, tb_snoc, hv2, hx]
          rfl
      | unt =>
        have ha : G a = some (.tup [.str "untrue"]) := ha
        obtain ⟨us', t, hu⟩ := snocT hn
        rw [hu, ex1_unt] at hT
        rw [hu, tb_snoc] at gd hsz
        rw [hu] at hle
        have hle' : us'.length ≤ i := by simp at hle; omega
        have hys : (us'.map fun t => tb (ev us t)).length < sizeLine := smallLt (by rw [List.length_map]; omega)
        have hv2 : ev us (.unt t) = some (!decide (ev us t = some true)) := by rw [ev]
        walk_at "wd"
        refine r_notW (tb_or _) ?_
        rw [tb_true]
        walk_at "wd"
        refine ⟨d, some (.ref a), some (tb (ev us t)), e5, rfl, same_mut (same_mut sm hd) hd, hd, ?_, by rw [hT]; simp; omega⟩
        rw [upd_same, hT, tb_snoc, hv2]
        rfl
      | jn e c =>
        have ha : G a = some (.tup [.str (jw e), .int (c : Int)]) := ha
        obtain ⟨us', ws, hu, hws⟩ := splitT (show c ≤ (exs (ss.take i)).length from hn)
        subst hws
        rw [hu, ex1_jn] at hT
        rw [hu, List.map_append] at gd hsz
        rw [hu, List.length_append] at hle
        have hr : (((us'.map fun t => tb (ev us t)) ++ ws.map fun t => tb (ev us t)).length : Int) - (ws.length : Int) = ((us'.map fun t => tb (ev us t)).length : Int) := by
          rw [List.length_append, List.length_map, List.length_map]
          omega
        have hv2 := ev_jn us e ws
        have hwm : (ws.map fun t => tb (ev us t)) = (ws.map (ev us)).map tb := by
          rw [List.map_map]
          rfl
        have e3 : decide (jw e = "missing") = false := decide_eq_false (jw_ne (by decide +kernel))
        have e4 : decide (jw e = "untrue") = false := decide_eq_false (jw_ne (by decide +kernel))
        have e5 : decide (jw e = "negation") = false := decide_eq_false (jw_ne (by decide +kernel))
        walk_at "rd"
        refine i_F e3 ?_
        walk_at "rd"
        refine i_F e4 ?_
        walk_at "rd"
        refine i_F e5 ?_
        have fin : ∀ (G1 : Hp) (p1 p2 p3 p4 : Addr) (f4 : Option V), True := fun _ _ _ _ _ _ => trivial
        cases e
        all_goals
          walk_at "wd"
          intro p1' hp1
          rw [cut_to hr]
          walk_at "wd"
          intro p2' hp2
          rw [cut_from hr, hwm]
          walk_at "wd"
          refine ⟨_, p2', ws.map (ev us), rfl, sql upd_same, ?_⟩
          walk_at "wd"
          intro p3 hp3
          walk_at "wd"
          refine r_cat (xs := us'.map fun t => tb (ev us t)) (ys := [_]) (by walk_at "hp") upd_same (small (by rw [List.length_singleton, List.length_map]; omega)) (fun p4 hp4 => ?_)
          walk_at "wd"
          refine ⟨p4, some (.ref a), _, some (.int _), rfl, by walk_at "sm", Same.free (by walk_at "sm") hp4, ?_, by rw [hT]; simp; omega⟩
          rw [upd_same, hT, tb_snoc, hv2]
    · rintro σ G ⟨d, e3, e4, e5, rfl, sm, hd, gd, hle⟩
      rw [hxl, List.take_length] at gd
      obtain ⟨t, ht⟩ := List.length_eq_one_iff.mp h1
      rw [ht] at gd
      have gd : G d = some (.lst [tb (ev us t)]) := gd
      walk_at "rd"
      exact k t G sm ht
end

def mk (bs : List Bool) : Int := if bs.contains false = false then 2 else if bs.contains true = true then 1 else 0
def spMarkOf (K : PySem.W.Frag) : Sp := fun vs H Q _ => ∃ (a : Addr) (bs : List Bool), vs = [.ref a] ∧ SqL K H a (bs.map V.bl) ∧ Q (.int (mk bs)) H
section
variable {P : Program} {w : World} {K : PySem.W.Frag} {mg : Str → Option Value} {base : Heap}
theorem ok_mark_of (T : Txt K mg) : FnOk P w K mg base CX0 1 T.a_mark_of T.d_mark_of ["truths"] (spMarkOf K) := by
  refine T.F_mark_of.ok sc_mark_of (fun vs H Q E h => ?_) (fun cdv A outer s H vs Q E hr h => ⟨_, (pss_cons (ps_if (pt_cmpR op_notIn_seq pe_bl (pv 0) (by rfl))
      (pss_one (ps_ret (pe_glob (v := .int 2) rfl T.g_IN ⟨_, rfl⟩)))
      pss_nil)
      (pss_one (ps_ret (pe_ifExp (pt_cmpR op_in_seq pe_bl (pv 0) (by rfl)) (pe_glob (v := .int 1) rfl T.g_MAYBE ⟨_, rfl⟩) (pe_glob (v := .int 0) rfl T.g_OUT ⟨_, rfl⟩))))), ?_⟩)
  · first | (obtain ⟨rfl, _⟩ := h; rfl) | (obtain ⟨_, rfl, _⟩ := h; rfl) | (obtain ⟨_, _, rfl, _⟩ := h; rfl) | (obtain ⟨_, _, _, rfl, _⟩ := h; rfl) | (obtain ⟨_, _, _, _, rfl, _⟩ := h; rfl) | (obtain ⟨_, _, _, _, _, rfl, _⟩ := h; rfl) | (obtain ⟨_, _, _, _, _, _, rfl, _⟩ := h; rfl) | (obtain ⟨_, _, _, _, _, _, _, rfl, _⟩ := h; rfl) | (obtain ⟨_, _, _, _, _, _, _, _, rfl, _⟩ := h; rfl) | (obtain ⟨_, _, _, _, _, _, _, _, _, rfl, _⟩ := h; rfl) | (obtain ⟨_, _, _, _, _, _, _, _, _, _, rfl, _⟩ := h; rfl) | (obtain ⟨_, _, _, _, _, _, _, _, _, _, _, rfl, _⟩ := h; rfl) | (obtain ⟨_, _, _, _, _, _, _, _, _, _, _, _, rfl, _⟩ := h; rfl) | (obtain ⟨_, _, _, _, _, _, _, _, _, _, _, _, _, rfl, _⟩ := h; rfl) | (obtain ⟨_, _, _, _, _, _, _, _, _, _, _, _, _, _, rfl, _⟩ := h; rfl)
  · obtain ⟨a, bs, rfl, hS, k⟩ := h
    try dsimp only [cxOf, Cx.nox, Cx.wish]
    refine st_of (σ := [some _]) rfl ?_
    walk_at "rd"
    simp only [if_true, in_bl]
    unfold mk at k
    cases h1 : bs.contains false with
    | false =>
      rw [h1, if_pos rfl] at k
      refine iteT ?_
      walk_at "rd"
      exact k
    | true =>
      rw [h1, if_neg (by decide)] at k
      refine iteF ?_
      walk_at "rd"
      simp only [in_bl, Bool.false_eq_true, if_false]
      cases h2 : bs.contains true with
      | true =>
        rw [h2, if_pos rfl] at k
        refine iteT ?_
        walk_at "rd"
        exact k
      | false =>
        rw [h2, if_neg (by decide)] at k
        refine iteF ?_
        walk_at "rd"
        exact k
end

/-! ### rows, and what holds for them -/
def HRow (K : PySem.W.Frag) (w : Nat) (t : Tr) (H : Hp) (z : V × Bool) : Prop := ∃ (r : Addr) (us : List V), z.1 = .ref r ∧ SqT K H r us ∧ w ≤ us.length ∧ us.length ≤ 3 ∧ (∀ x ∈ us, VNI x) ∧ z.2 = decide (ev us t = some true)
def HRs (K : PySem.W.Frag) (w : Nat) (t : Tr) (H : Hp) (zs : List (V × Bool)) : Prop := ∀ z ∈ zs, HRow K w t H z
theorem HRs.keep {K : PySem.W.Frag} {w : Nat} {t : Tr} {H H' : Hp} {zs : List (V × Bool)} (h : HRs K w t H zs) (e : Tp H H') : HRs K w t H' zs := fun z hz => let ⟨r, us, a, b, c⟩ := h z hz; ⟨r, us, a, e.tup b, c⟩
theorem HRs.app {K : PySem.W.Frag} {w : Nat} {t : Tr} {H : Hp} {xs ys : List (V × Bool)} (h : HRs K w t H xs) (g : HRs K w t H ys) : HRs K w t H (xs ++ ys) := fun z hz => (List.mem_append.mp hz).elim (h z) (g z)
theorem HRs.sub {K : PySem.W.Frag} {w : Nat} {t : Tr} {H : Hp} {xs ys : List (V × Bool)} (h : HRs K w t H xs) (g : ∀ z ∈ ys, z ∈ xs) : HRs K w t H ys := fun z hz => h z (g z hz)
def ins (zs : List (V × Bool)) : List (V × Bool) := zs.filter fun z => z.2
def outs (zs : List (V × Bool)) : List (V × Bool) := zs.filter fun z => !z.2
def mkR (zs : List (V × Bool)) : Int := match ins zs, outs zs with
  | [], _ => 0
  | _ :: _, [] => 2
  | _ :: _, _ :: _ => 1
def PairV (K : PySem.W.Frag) (H : Hp) (zs : List (V × Bool)) (v : V) : Prop := match ins zs, outs zs with
  | x :: _, y :: _ => ∃ q, v = .ref q ∧ SqT K H q [x.1, y.1]
  | _, _ => v = .non
theorem PairV.same {K : PySem.W.Frag} {H H' : Hp} {zs : List (V × Bool)} {v : V} (h : PairV K H zs v) (s : Same H H') : PairV K H' zs v := by
  unfold PairV at h ⊢
  split
  · rename_i h1 h2
    rw [h1, h2] at h
    obtain ⟨q, a, b⟩ := h
    exact ⟨q, a, tup' b s⟩
  · rename_i n
    split at h
    · rename_i x r y r2 h1 h2
      exact (n x r y r2 h1 h2).elim
    · exact h
theorem ins_take {zs : List (V × Bool)} {i : Nat} {z : V × Bool} (h : zs[i]? = some z) : ins (zs.take (i + 1)) = ins (zs.take i) ++ (if z.2 = true then [z] else []) := by
  unfold ins
  rw [List.take_add_one, h, List.filter_append]
  congr 1
  cases hz : z.2 <;> simp [hz]
theorem outs_take {zs : List (V × Bool)} {i : Nat} {z : V × Bool} (h : zs[i]? = some z) : outs (zs.take (i + 1)) = outs (zs.take i) ++ (if z.2 = true then [] else [z]) := by
  unfold outs
  rw [List.take_add_one, h, List.filter_append]
  congr 1
  cases hz : z.2 <;> simp [hz]
theorem ins_len (zs : List (V × Bool)) : (ins zs).length ≤ zs.length := List.length_filter_le _ _
theorem outs_len (zs : List (V × Bool)) : (outs zs).length ≤ zs.length := List.length_filter_le _ _
theorem ins_both (zs : List (V × Bool)) : (ins zs).length + (outs zs).length = zs.length := by
  induction zs with
  | nil => rfl
  | cons z r ih =>
    unfold ins outs at ih ⊢
    cases hz : z.2 <;> simp [List.filter_cons, hz] <;> omega
theorem mk_ins {zs : List (V × Bool)} (h : zs ≠ []) : mk (zs.map Prod.snd) = mkR zs := by
  have h1 : (zs.map Prod.snd).contains false = !(outs zs).isEmpty := by
    rw [Bool.eq_iff_iff]
    unfold outs
    simp [List.isEmpty_iff, List.filter_eq_nil_iff]
  have h2 : (zs.map Prod.snd).contains true = !(ins zs).isEmpty := by
    rw [Bool.eq_iff_iff]
    unfold ins
    simp [List.isEmpty_iff, List.filter_eq_nil_iff]
  have h3 := ins_both zs
  have h4 : 0 < zs.length := List.length_pos_iff.mpr h
  unfold mk mkR
  rw [h1, h2]
  cases hi : ins zs with
  | nil =>
    cases ho : outs zs with
    | nil => rw [hi, ho] at h3; simp at h3; omega
    | cons y r => simp
  | cons x s =>
    cases ho : outs zs with
    | nil => simp
    | cons y r => simp
/-- a row beside what holds for it -/
def PRs (K : PySem.W.Frag) (H : Hp) (ps : List V) (zs : List (V × Bool)) : Prop := ps.length = zs.length ∧ ∀ (i : Nat) (p : V), ps[i]? = some p → ∃ (q : Addr) (z : V × Bool), p = .ref q ∧ zs[i]? = some z ∧ SqT K H q [.bl z.2, z.1]
theorem PRs.same {K : PySem.W.Frag} {H H' : Hp} {ps : List V} {zs : List (V × Bool)} (h : PRs K H ps zs) (e : Same H H') : PRs K H' ps zs := ⟨h.1, fun i p hp => let ⟨q, z, a, b, c⟩ := h.2 i p hp; ⟨q, z, a, b, tup' c e⟩⟩
theorem PRs.snoc {K : PySem.W.Frag} {H : Hp} {ps : List V} {zs : List (V × Bool)} {q : Addr} {z : V × Bool} (h : PRs K H ps zs) (g : SqT K H q [.bl z.2, z.1]) : PRs K H (ps ++ [.ref q]) (zs ++ [z]) := by
  refine ⟨by simp [h.1], fun i p hp => ?_⟩
  by_cases hi : i < ps.length
  · rw [List.getElem?_append_left hi] at hp
    obtain ⟨q', z', a, b, c⟩ := h.2 i p hp
    exact ⟨q', z', a, by rw [List.getElem?_append_left (by rw [← h.1]; exact hi)]; exact b, c⟩
  · rw [List.getElem?_append_right (by omega)] at hp
    obtain ⟨rfl, rfl⟩ : i = ps.length ∧ p = .ref q := by
      rcases Nat.eq_zero_or_pos (i - ps.length) with z0 | z0
      · rw [z0] at hp
        exact ⟨by omega, (Option.some.inj hp).symm⟩
      · rw [List.getElem?_eq_none (by simp; omega)] at hp
        cases hp
    exact ⟨q, z, rfl, by rw [h.1]; simp, g⟩
def spFirst (K : PySem.W.Frag) : Sp := fun vs H Q _ => ∃ (a : Addr) (ps : List V) (zs : List (V × Bool)), vs = [.ref a] ∧ SqL K H a ps ∧ PRs K H ps zs ∧ zs.length ≤ 100 ∧ ∀ v H', Same H H' → PairV K H' zs v → Q v H'
theorem PRs.keep {K : PySem.W.Frag} {H H' : Hp} {ps : List V} {zs : List (V × Bool)} (h : PRs K H ps zs) (e : Tp H H') : PRs K H' ps zs := ⟨h.1, fun i p hp => let ⟨q, z, a, b, c⟩ := h.2 i p hp; ⟨q, z, a, b, e.tup c⟩⟩
theorem get_map {α β : Type} {f : α → β} {l : List α} {i : Nat} {y : β} (h : (l.map f)[i]? = some y) : ∃ x, l[i]? = some x ∧ y = f x := by
  rw [List.getElem?_map] at h
  cases e : l[i]? with
  | none => rw [e] at h; cases h
  | some x => rw [e] at h; exact ⟨x, rfl, (Option.some.inj h).symm⟩
def spRowsMark (K : PySem.W.Frag) : Sp := fun vs H Q _ => ∃ (v : V) (a : Addr) (t : Tr) (w m : Nat) (zs : List (V × Bool)), vs = [v, .ref a] ∧ PTr K w H v t m ∧ m ≤ 16 ∧ SqL K H a (zs.map Prod.fst) ∧ HRs K w t H zs ∧ zs.length ≤ 100 ∧ ∀ H', Same H H' → Q (.int (mkR zs)) H'
def spRowsPair (K : PySem.W.Frag) : Sp := fun vs H Q _ => ∃ (v : V) (a : Addr) (t : Tr) (w m : Nat) (zs : List (V × Bool)), vs = [v, .ref a] ∧ PTr K w H v t m ∧ m ≤ 16 ∧ SqL K H a (zs.map Prod.fst) ∧ HRs K w t H zs ∧ zs.length ≤ 100 ∧ ∀ u H', Same H H' → PairV K H' zs u → Q u H'
section
variable {P : Program} {w : World} {K : PySem.W.Frag} {mg : Str → Option Value} {base : Heap}
theorem ok_first_of_each (T : Txt K mg) : FnOk P w K mg base CX0 1 T.a_first_of_each T.d_first_of_each ["judged"] (spFirst K) := by
  refine T.F_first_of_each.ok sc_first_of_each (fun vs H Q E h => ?_) (fun cdv A outer s H vs Q E hr h => ⟨_, (pss_cons (ps_setLc (i := 1) (own := [("value", 3), ("row", 4)]) (g := (gTup _ 2 (gCons (gName 3) (gCons (gName 4) gNil)))) rfl sc_first_of_each.nd rfl rfl (sw_true rfl rfl rfl (by decide +kernel)) (pi_list (pv 0)) (blkOk_by (own := [("value", 3), ("row", 4)]) (N := N_first_of_each) (sc := defScope s_first_of_each) (by decide +kernel)) (fun _ _ _ _ _ => (pg_tupB rfl (pgs_cons (pg_name (i := 3) sc_first_of_each.nd rfl (Or.inl rfl)) (pgs_cons (pg_name (i := 4) sc_first_of_each.nd rfl (Or.inl rfl)) pgs_nil)))) (fun _ _ _ _ _ => pts_one (pt_val (pv 3))) (fun _ _ _ _ _ => (pv 4)))
      (pss_cons (ps_setLc (i := 2) (own := [("value", 3), ("row", 4)]) (g := (gTup _ 2 (gCons (gName 3) (gCons (gName 4) gNil)))) rfl sc_first_of_each.nd rfl rfl (sw_true rfl rfl rfl (by decide +kernel)) (pi_list (pv 0)) (blkOk_by (own := [("value", 3), ("row", 4)]) (N := N_first_of_each) (sc := defScope s_first_of_each) (by decide +kernel)) (fun _ _ _ _ _ => (pg_tupB rfl (pgs_cons (pg_name (i := 3) sc_first_of_each.nd rfl (Or.inl rfl)) (pgs_cons (pg_name (i := 4) sc_first_of_each.nd rfl (Or.inl rfl)) pgs_nil)))) (fun _ _ _ _ _ => pts_one (pt_not (pt_val (pv 3)))) (fun _ _ _ _ _ => (pv 4)))
      (pss_one (ps_ret (pe_ifExp (PW.pt (pw_and (pt_truth (pv 1) (by intro _; rfl)) (pw_and1 (pt_truth (pv 2) (by intro _; rfl))))) (pe_tup (pa_cons (pe_ix ix_list (pv 1) pe_int (fun _ _ => rfl)) (pa_cons (pe_ix ix_list (pv 2) pe_int (fun _ _ => rfl)) pa_nil))) pe_non))))), ?_⟩)
  · first | (obtain ⟨rfl, _⟩ := h; rfl) | (obtain ⟨_, rfl, _⟩ := h; rfl) | (obtain ⟨_, _, rfl, _⟩ := h; rfl) | (obtain ⟨_, _, _, rfl, _⟩ := h; rfl) | (obtain ⟨_, _, _, _, rfl, _⟩ := h; rfl) | (obtain ⟨_, _, _, _, _, rfl, _⟩ := h; rfl) | (obtain ⟨_, _, _, _, _, _, rfl, _⟩ := h; rfl) | (obtain ⟨_, _, _, _, _, _, _, rfl, _⟩ := h; rfl) | (obtain ⟨_, _, _, _, _, _, _, _, rfl, _⟩ := h; rfl) | (obtain ⟨_, _, _, _, _, _, _, _, _, rfl, _⟩ := h; rfl) | (obtain ⟨_, _, _, _, _, _, _, _, _, _, rfl, _⟩ := h; rfl) | (obtain ⟨_, _, _, _, _, _, _, _, _, _, _, rfl, _⟩ := h; rfl) | (obtain ⟨_, _, _, _, _, _, _, _, _, _, _, _, rfl, _⟩ := h; rfl) | (obtain ⟨_, _, _, _, _, _, _, _, _, _, _, _, _, rfl, _⟩ := h; rfl) | (obtain ⟨_, _, _, _, _, _, _, _, _, _, _, _, _, _, rfl, _⟩ := h; rfl)
  · obtain ⟨a, ps, zs, rfl, hS, pr, hl, k⟩ := h
    try dsimp only [cxOf, Cx.nox, Cx.wish]
    refine st_of (σ := [some _, none, none, none, none]) rfl ?_
    have hpl := pr.1
    walk_at "rd"
    with_reducible refine c_lcL ?_
    walk_at "rd"
    refine ⟨⟨_, hS⟩, fun D hD => walkL (xs := ps) (fun i G => Same H G ∧ G D = some (.lst ((ins (zs.take i)).map Prod.fst))) ?_ ?_ ?_ ?_⟩
    · exact ⟨same_new (Same.refl _) hD, upd_same⟩
    · rintro i G _ ⟨s, _⟩
      exact seq' hS s
    · rintro i x G hi ⟨s, gD⟩
      obtain ⟨q, z, rfl, hz, hq⟩ := pr.2 i x hi
      have hqG := tup' hq s
      have hil : i < ps.length := (List.getElem?_eq_some_iff.mp hi).1
      have il := ins_len (zs.take i)
      rw [List.length_take] at il
      have hsz : ((ins (zs.take i)).map Prod.fst).length < sizeLine := smallLt (by rw [List.length_map]; omega)
      rw [ins_take hz, List.map_append]
      walk_at "rd"
      refine ⟨rfl, ?_⟩
      walk_at "rd"
      cases hz2 : z.2 with
      | true =>
        refine i_T rfl ?_
        walk_at "rd"
        first
        | exact ⟨_, gD, hsz, same_mut s hD, upd_same⟩
        | exact ⟨gD, hsz, same_mut s hD, upd_same⟩
      | false =>
        refine i_F rfl ?_
        exact ⟨s, by rw [if_neg Bool.false_ne_true, List.map_nil, List.append_nil]; exact gD⟩
    · rintro G ⟨s, gD⟩
      rw [hpl, List.take_length] at gD
      have hSG := seq' hS s
      walk_at "rd"
      with_reducible refine c_lcL ?_
      walk_at "rd"
      refine ⟨⟨_, hSG⟩, fun D2 hD2 => walkL (xs := ps) (fun i G' => Same G G' ∧ G' D2 = some (.lst ((outs (zs.take i)).map Prod.fst))) ?_ ?_ ?_ ?_⟩
      · exact ⟨same_new (Same.refl _) hD2, upd_same⟩
      · rintro i G' _ ⟨s2, _⟩
        exact seq' hSG s2
      · rintro i x G' hi ⟨s2, gD2⟩
        obtain ⟨q, z, rfl, hz, hq⟩ := pr.2 i x hi
        have hqG := tup' hq (s.trans s2)
        have hil : i < ps.length := (List.getElem?_eq_some_iff.mp hi).1
        have il := outs_len (zs.take i)
        rw [List.length_take] at il
        have hsz : ((outs (zs.take i)).map Prod.fst).length < sizeLine := smallLt (by rw [List.length_map]; omega)
        rw [outs_take hz, List.map_append]
        walk_at "rd"
        refine ⟨rfl, ?_⟩
        walk_at "rd"
        cases hz2 : z.2 with
        | true =>
          refine i_F rfl ?_
          exact ⟨s2, by rw [if_pos rfl, List.map_nil, List.append_nil]; exact gD2⟩
        | false =>
          refine i_T rfl ?_
          walk_at "rd"
          first
          | exact ⟨_, gD2, hsz, same_mut s2 hD2, upd_same⟩
          | exact ⟨gD2, hsz, same_mut s2 hD2, upd_same⟩
      · rintro G2 ⟨s2, gD2⟩
        rw [hpl, List.take_length] at gD2
        have gD1 := s2 _ _ gD
        have s02 := s.trans s2
        have pv : ∀ v, PairV K G2 zs v → Q v G2 := fun v h => k v G2 s02 h
        unfold PairV at pv
        walk_at "rd"
        cases hi : ins zs with
        | nil =>
          rw [hi] at gD1 pv
          refine ⟨false, .inl ⟨_, sql gD1, rfl⟩, ?_⟩
          walk_at "rd"
          exact pv _ rfl
        | cons x r =>
          rw [hi] at gD1 pv
          refine ⟨true, .inl ⟨_, sql gD1, rfl⟩, ?_⟩
          walk_at "rd"
          cases ho : outs zs with
          | nil =>
            rw [ho] at gD2 pv
            refine ⟨false, .inl ⟨_, sql gD2, rfl⟩, ?_⟩
            walk_at "rd"
            exact pv _ rfl
          | cons y r2 =>
            rw [ho] at gD2 pv
            refine ⟨true, .inl ⟨_, sql gD2, rfl⟩, ?_⟩
            rw [List.map_cons] at gD1 gD2
            have q1 : SqL K G2 D _ := sql gD1
            have q2 : SqL K G2 D2 _ := sql gD2
            walk_at "rd"
            refine fun p hp => alc _ hp (fun G3 s3 g3 => ?_)
            refine k _ G3 (s02.trans s3) ?_
            unfold PairV
            rw [hi, ho]
            exact ⟨p, rfl, sqt g3⟩
theorem ok_rows_mark (T : Txt K mg) : FnOk P w K mg base CX0 21 T.a_rows_mark T.d_rows_mark ["predicate", "rows"] (spRowsMark K) := by
  refine T.F_rows_mark.ok sc_rows_mark (fun vs H Q E h => ?_) (fun cdv A outer s H vs Q E hr h => ⟨_, (pss_one (ps_ret (pe_ifExp (pt_truth (pv 1) (by intro _; rfl)) (pe_call (ok_mark_of T) (hr.mono (by decide)) (by rfl) T.g_mark_of T.F_mark_of.kp T.b_mark_of .nil pass0 (pa_cons (pe_lc (own := [("row", 2)]) (g := gName 2) (tt := tYes) rfl sc_rows_mark.nd (pi_list (pv 1)) (blkOk_by (own := [("row", 2)]) (N := N_rows_mark) (sc := defScope s_rows_mark) (by decide +kernel)) (fun _ _ _ _ _ => pg_name (i := 2) sc_rows_mark.nd rfl (Or.inl rfl)) (fun _ _ _ _ _ => pts_nil) (fun _ _ _ _ _ => (pe_call (ok_holds T) (hr.mono (by decide)) (by rfl) T.g_holds T.F_holds.kp T.b_holds .nil pass0 (pa_cons (pv 0) (pa_cons (pv 2) pa_nil))))) pa_nil)) (pe_glob (v := .int 0) rfl T.g_OUT ⟨_, rfl⟩)))), ?_⟩)
  · first | (obtain ⟨rfl, _⟩ := h; rfl) | (obtain ⟨_, rfl, _⟩ := h; rfl) | (obtain ⟨_, _, rfl, _⟩ := h; rfl) | (obtain ⟨_, _, _, rfl, _⟩ := h; rfl) | (obtain ⟨_, _, _, _, rfl, _⟩ := h; rfl) | (obtain ⟨_, _, _, _, _, rfl, _⟩ := h; rfl) | (obtain ⟨_, _, _, _, _, _, rfl, _⟩ := h; rfl) | (obtain ⟨_, _, _, _, _, _, _, rfl, _⟩ := h; rfl) | (obtain ⟨_, _, _, _, _, _, _, _, rfl, _⟩ := h; rfl) | (obtain ⟨_, _, _, _, _, _, _, _, _, rfl, _⟩ := h; rfl) | (obtain ⟨_, _, _, _, _, _, _, _, _, _, rfl, _⟩ := h; rfl) | (obtain ⟨_, _, _, _, _, _, _, _, _, _, _, rfl, _⟩ := h; rfl) | (obtain ⟨_, _, _, _, _, _, _, _, _, _, _, _, rfl, _⟩ := h; rfl) | (obtain ⟨_, _, _, _, _, _, _, _, _, _, _, _, _, rfl, _⟩ := h; rfl) | (obtain ⟨_, _, _, _, _, _, _, _, _, _, _, _, _, _, rfl, _⟩ := h; rfl)
  · obtain ⟨v, a, t, wd, m, zs, rfl, pt, hm, hS, hr2, hl, k⟩ := h
    try dsimp only [cxOf, Cx.nox, Cx.wish]
    refine st_of (σ := [some _, some _, none]) rfl ?_
    walk_at "rd"
    cases zs with
    | nil =>
      refine ⟨false, .inl ⟨_, hS, rfl⟩, ?_⟩
      walk_at "rd"
      exact k _ (Same.refl _)
    | cons z0 zr =>
      refine ⟨true, .inl ⟨_, hS, rfl⟩, ?_⟩
      walk_at "rd"
      with_reducible refine c_lcL ?_
      walk_at "rd"
      generalize hzs : z0 :: zr = zs at hS hr2 hl k
      refine ⟨⟨_, hS⟩, fun D hD => walkL (xs := zs.map Prod.fst) (fun i G => Same H G ∧ G D = some (.lst (((zs.take i).map Prod.snd).map V.bl))) ?_ ?_ ?_ ?_⟩
      · exact ⟨same_new (Same.refl _) hD, upd_same⟩
      · rintro i G _ ⟨s, _⟩
        exact seq' hS s
      · rintro i x G hi ⟨s, gD⟩
        obtain ⟨z, hz, rfl⟩ := get_map hi
        obtain ⟨r, us, er, hu, hw, h3, hv, eb⟩ := hr2 z (List.mem_of_getElem? hz)
        rw [er]
        walk_at "rd"
        refine ⟨rfl, ?_⟩
        walk_at "rd"
        refine ⟨v, r, t, wd, m, us, rfl, pt.keep (.same s), hm, by decide, tup' hu s, hw, hv, fun G2 s2 => ?_⟩
        have il : i < zs.length := (List.getElem?_eq_some_iff.mp hz).1
        refine ⟨_, s2 _ _ gD, smallLt (by rw [List.length_map, List.length_map, List.length_take]; omega), same_mut (s.trans s2) hD, ?_⟩
        rw [upd_same, List.take_add_one, hz, ← eb]
        simp
      · rintro G ⟨s, gD⟩
        rw [List.length_map, List.take_length] at gD
        walk_at "rd"
        refine ⟨D, zs.map Prod.snd, rfl, sql gD, ?_⟩
        rw [mk_ins (by rw [← hzs]; exact List.cons_ne_nil _ _)]
        exact k G s
theorem ok_rows_pair (T : Txt K mg) : FnOk P w K mg base CX0 21 T.a_rows_pair T.d_rows_pair ["predicate", "rows"] (spRowsPair K) := by
  refine T.F_rows_pair.ok sc_rows_pair (fun vs H Q E h => ?_) (fun cdv A outer s H vs Q E hr h => ⟨_, (pss_one (ps_ret (pe_call (ok_first_of_each T) (hr.mono (by decide)) (by rfl) T.g_first_of_each T.F_first_of_each.kp T.b_first_of_each .nil pass0 (pa_cons (pe_lc (own := [("row", 2)]) (g := gName 2) (tt := tYes) rfl sc_rows_pair.nd (pi_list (pv 1)) (blkOk_by (own := [("row", 2)]) (N := N_rows_pair) (sc := defScope s_rows_pair) (by decide +kernel)) (fun _ _ _ _ _ => pg_name (i := 2) sc_rows_pair.nd rfl (Or.inl rfl)) (fun _ _ _ _ _ => pts_nil) (fun _ _ _ _ _ => (pe_tup (pa_cons (pe_call (ok_holds T) (hr.mono (by decide)) (by rfl) T.g_holds T.F_holds.kp T.b_holds .nil pass0 (pa_cons (pv 0) (pa_cons (pv 2) pa_nil))) (pa_cons (pv 2) pa_nil))))) pa_nil)))), ?_⟩)
  · first | (obtain ⟨rfl, _⟩ := h; rfl) | (obtain ⟨_, rfl, _⟩ := h; rfl) | (obtain ⟨_, _, rfl, _⟩ := h; rfl) | (obtain ⟨_, _, _, rfl, _⟩ := h; rfl) | (obtain ⟨_, _, _, _, rfl, _⟩ := h; rfl) | (obtain ⟨_, _, _, _, _, rfl, _⟩ := h; rfl) | (obtain ⟨_, _, _, _, _, _, rfl, _⟩ := h; rfl) | (obtain ⟨_, _, _, _, _, _, _, rfl, _⟩ := h; rfl) | (obtain ⟨_, _, _, _, _, _, _, _, rfl, _⟩ := h; rfl) | (obtain ⟨_, _, _, _, _, _, _, _, _, rfl, _⟩ := h; rfl) | (obtain ⟨_, _, _, _, _, _, _, _, _, _, rfl, _⟩ := h; rfl) | (obtain ⟨_, _, _, _, _, _, _, _, _, _, _, rfl, _⟩ := h; rfl) | (obtain ⟨_, _, _, _, _, _, _, _, _, _, _, _, rfl, _⟩ := h; rfl) | (obtain ⟨_, _, _, _, _, _, _, _, _, _, _, _, _, rfl, _⟩ := h; rfl) | (obtain ⟨_, _, _, _, _, _, _, _, _, _, _, _, _, _, rfl, _⟩ := h; rfl)
  · obtain ⟨v, a, t, wd, m, zs, rfl, pt, hm, hS, hr2, hl, k⟩ := h
    try dsimp only [cxOf, Cx.nox, Cx.wish]
    refine st_of (σ := [some _, some _, none]) rfl ?_
    walk_at "rd"
    with_reducible refine c_lcL ?_
    walk_at "rd"
    refine ⟨⟨_, hS⟩, fun D hD => walkL (xs := zs.map Prod.fst) (fun i G => Same H G ∧ ∃ ps, G D = some (.lst ps) ∧ PRs K G ps (zs.take i)) ?_ ?_ ?_ ?_⟩
    · exact ⟨same_new (Same.refl _) hD, [], upd_same, by simp, fun i p hp => by simp at hp⟩
    · rintro i G _ ⟨s, _⟩
      exact seq' hS s
    · rintro i x G hi ⟨s, ps, gD, pr⟩
      obtain ⟨z, hz, rfl⟩ := get_map hi
      obtain ⟨r, us, er, hu, hw, h3, hv, eb⟩ := hr2 z (List.mem_of_getElem? hz)
      have er2 := er
      rw [er]
      walk_at "rd"
      refine ⟨rfl, ?_⟩
      walk_at "rd"
      refine ⟨v, r, t, wd, m, us, rfl, pt.keep (.same s), hm, by decide, tup' hu s, hw, hv, fun G2 s2 => ?_⟩
      walk_at "rd"
      refine fun p hp => alc _ hp (fun G3 s3 g3 => ?_)
      have il : i < zs.length := (List.getElem?_eq_some_iff.mp hz).1
      have pl := pr.1
      rw [List.length_take] at pl
      have gD3 := s3 _ _ (s2 _ _ gD)
      have np : p ≠ D := (ne_of_none (s2 _ _ gD) hp).symm
      refine ⟨_, gD3, smallLt (by omega), same_mut ((s.trans s2).trans s3) hD, _, upd_same, ?_⟩
      rw [List.take_add_one, hz]
      have pr3 : PRs K G3 (ps ++ [.ref p]) (zs.take i ++ [z]) := (pr.same (s2.trans s3)).snoc (by rw [eb, er2]; exact sqt g3)
      exact pr3.keep (Tp.lst (Tp.refl _) gD3)
    · rintro G ⟨s, ps, gD, pr⟩
      rw [List.length_map, List.take_length] at pr
      walk_at "rd"
      exact ⟨D, ps, zs, rfl, sql gD, pr, hl, fun u H' s2 h2 => k u H' (s.trans s2) h2⟩
end

def spRowsDue (K : PySem.W.Frag) : Sp := fun vs H Q _ => ∃ (q a : Addr) (xs : List V) (ss : List Stp) (t : Tr) (w : Nat) (zs : List (V × Bool)), vs = [.ref q, .ref a] ∧ SqL K H q xs ∧ Stps w H xs ss ∧ Valid ss ∧ exs ss = [t] ∧ ss.length ≤ 1000 ∧ SqL K H a (zs.map Prod.fst) ∧ HRs K w t H zs ∧ zs.length ≤ 100 ∧
  ∀ d u H', Same H H' → H' d = some (.lst [.int (mkR zs), u]) → PairV K H' zs u → Q (.ref d) H'
section
variable {P : Program} {w : World} {K : PySem.W.Frag} {mg : Str → Option Value} {base : Heap}
theorem ok_rows_due (T : Txt K mg) : FnOk P w K mg base CX0 3 T.a_rows_due T.d_rows_due ["_law_steps", "_law_rows"] (spRowsDue K) := by
  refine T.F_rows_due.ok sc__law_rows_due (fun vs H Q E h => ?_) (fun cdv A outer s H vs Q E hr h => ⟨_, (pss_cons (ps_setLc (i := 2) (own := [("_law_row_here", 4)]) (g := gName 4) rfl sc__law_rows_due.nd rfl rfl (sw_true rfl rfl rfl (by decide +kernel)) (pi_list (pv 1)) (blkOk_by (own := [("_law_row_here", 4)]) (N := N__law_rows_due) (sc := defScope s__law_rows_due) (by decide +kernel)) (fun _ _ _ _ _ => pg_name (i := 4) sc__law_rows_due.nd rfl (Or.inl rfl)) (fun _ _ _ _ _ => pts_one (pt_cmpR op_isW (pe_call (ok_judged T) (hr.mono (by decide)) (by rfl) T.g_judged T.F_judged.kp T.b_judged .nil pass0 (pa_cons (pv 0) (pa_cons (pv 4) pa_nil))) pe_bl (nomark _))) (fun _ _ _ _ _ => (pv 4)))
      (pss_cons (ps_setLc (i := 3) (own := [("_law_row_here", 4)]) (g := gName 4) rfl sc__law_rows_due.nd rfl rfl (sw_true rfl rfl rfl (by decide +kernel)) (pi_list (pv 1)) (blkOk_by (own := [("_law_row_here", 4)]) (N := N__law_rows_due) (sc := defScope s__law_rows_due) (by decide +kernel)) (fun _ _ _ _ _ => pg_name (i := 4) sc__law_rows_due.nd rfl (Or.inl rfl)) (fun _ _ _ _ _ => pts_one (pt_cmpR op_notW (pe_call (ok_judged T) (hr.mono (by decide)) (by rfl) T.g_judged T.F_judged.kp T.b_judged .nil pass0 (pa_cons (pv 0) (pa_cons (pv 4) pa_nil))) pe_bl (nomark _))) (fun _ _ _ _ _ => (pv 4)))
      (pss_cons (ps_if (pt_cmpR op_eq (pe_callB call_len_seq (by rfl) T.z_len PySem.boot_len (pa_cons (pv 2) pa_nil)) pe_int (nomark _))
      (pss_one (ps_ret (pe_lst (pa_cons pe_int (pa_cons pe_non pa_nil)))))
      pss_nil)
      (pss_cons (ps_if (pt_cmpR op_eq (pe_callB call_len_seq (by rfl) T.z_len PySem.boot_len (pa_cons (pv 3) pa_nil)) pe_int (nomark _))
      (pss_one (ps_ret (pe_lst (pa_cons pe_int (pa_cons pe_non pa_nil)))))
      pss_nil)
      (pss_one (ps_ret (pe_lst (pa_cons pe_int (pa_cons (pe_tup (pa_cons (pe_ix ix_list (pv 2) pe_int (fun _ _ => rfl)) (pa_cons (pe_ix ix_list (pv 3) pe_int (fun _ _ => rfl)) pa_nil))) pa_nil))))))))), ?_⟩)
  · first | (obtain ⟨rfl, _⟩ := h; rfl) | (obtain ⟨_, rfl, _⟩ := h; rfl) | (obtain ⟨_, _, rfl, _⟩ := h; rfl) | (obtain ⟨_, _, _, rfl, _⟩ := h; rfl) | (obtain ⟨_, _, _, _, rfl, _⟩ := h; rfl) | (obtain ⟨_, _, _, _, _, rfl, _⟩ := h; rfl) | (obtain ⟨_, _, _, _, _, _, rfl, _⟩ := h; rfl) | (obtain ⟨_, _, _, _, _, _, _, rfl, _⟩ := h; rfl) | (obtain ⟨_, _, _, _, _, _, _, _, rfl, _⟩ := h; rfl) | (obtain ⟨_, _, _, _, _, _, _, _, _, rfl, _⟩ := h; rfl) | (obtain ⟨_, _, _, _, _, _, _, _, _, _, rfl, _⟩ := h; rfl) | (obtain ⟨_, _, _, _, _, _, _, _, _, _, _, rfl, _⟩ := h; rfl) | (obtain ⟨_, _, _, _, _, _, _, _, _, _, _, _, rfl, _⟩ := h; rfl) | (obtain ⟨_, _, _, _, _, _, _, _, _, _, _, _, _, rfl, _⟩ := h; rfl) | (obtain ⟨_, _, _, _, _, _, _, _, _, _, _, _, _, _, rfl, _⟩ := h; rfl)
  · obtain ⟨q, a, xs, ss, t, wd, zs, rfl, hq, sp, va, ht, hsl, hS, hr2, hl, k⟩ := h
    try dsimp only [cxOf, Cx.nox, Cx.wish]
    refine st_of (σ := [some _, some _, none, none, none]) rfl ?_
    have hx1 : (exs ss).length = 1 := by rw [ht]; rfl
    walk_at "rd"
    with_reducible refine c_lcL ?_
    walk_at "rd"
    refine ⟨⟨_, hS⟩, fun D hD => walkL (xs := zs.map Prod.fst) (fun i G => Same H G ∧ G D = some (.lst ((ins (zs.take i)).map Prod.fst))) ?_ ?_ ?_ ?_⟩
    · exact ⟨same_new (Same.refl _) hD, upd_same⟩
    · rintro i G _ ⟨s, _⟩
      exact seq' hS s
    · rintro i x G hi ⟨s, gD⟩
      obtain ⟨z, hz, rfl⟩ := get_map hi
      obtain ⟨r, us, er, hu, hw, h3, hv, eb⟩ := hr2 z (List.mem_of_getElem? hz)
      have il := ins_len (zs.take i)
      have iz : i < zs.length := (List.getElem?_eq_some_iff.mp hz).1
      rw [List.length_take] at il
      have hsz : ((ins (zs.take i)).map Prod.fst).length < sizeLine := smallLt (by rw [List.length_map]; omega)
      rw [ins_take hz, List.map_append]
      have er2 := er
      rw [er]
      walk_at "rd"
      refine ⟨rfl, ?_⟩
      walk_at "rd"
      refine ⟨q, r, xs, ss, wd, us, rfl, seq' hq s, sp.keep (.same s), va, hx1, hsl, tup' hu s, hw, hv, fun t' G2 s2 ht' => ?_⟩
      obtain rfl : t = t' := by
        rw [ht] at ht'
        exact List.head_eq_of_cons_eq ht'
      have gD2 := s2 _ _ gD
      walk_at "rd"
      refine r_isW (tb_or _) ?_
      rw [tb_true, ← eb]
      refine ⟨_, rfl, ?_⟩
      cases hz2 : z.2 with
      | true =>
        refine i_T rfl ?_
        walk_at "rd"
        rw [if_pos rfl, List.map_cons, er2]
        first
        | exact ⟨_, gD2, hsz, same_mut (s.trans s2) hD, upd_same⟩
        | exact ⟨gD2, hsz, same_mut (s.trans s2) hD, upd_same⟩
      | false =>
        refine i_F rfl ?_
        exact ⟨s.trans s2, by rw [if_neg Bool.false_ne_true, List.map_nil, List.append_nil]; exact gD2⟩
    · rintro G ⟨s, gD⟩
      rw [List.length_map, List.take_length] at gD
      have hSG := seq' hS s
      walk_at "rd"
      with_reducible refine c_lcL ?_
      walk_at "rd"
      refine ⟨⟨_, hSG⟩, fun D2 hD2 => walkL (xs := zs.map Prod.fst) (fun i G' => Same G G' ∧ G' D2 = some (.lst ((outs (zs.take i)).map Prod.fst))) ?_ ?_ ?_ ?_⟩
      · exact ⟨same_new (Same.refl _) hD2, upd_same⟩
      · rintro i G' _ ⟨s2, _⟩
        exact seq' hSG s2
      · rintro i x G' hi ⟨s1, gD2⟩
        obtain ⟨z, hz, rfl⟩ := get_map hi
        obtain ⟨r, us, er, hu, hw, h3, hv, eb⟩ := hr2 z (List.mem_of_getElem? hz)
        have il := outs_len (zs.take i)
        have iz : i < zs.length := (List.getElem?_eq_some_iff.mp hz).1
        rw [List.length_take] at il
        have hsz : ((outs (zs.take i)).map Prod.fst).length < sizeLine := smallLt (by rw [List.length_map]; omega)
        rw [outs_take hz, List.map_append]
        have er2 := er
        rw [er]
        have s0 := s.trans s1
        walk_at "rd"
        refine ⟨rfl, ?_⟩
        walk_at "rd"
        refine ⟨q, r, xs, ss, wd, us, rfl, seq' hq s0, sp.keep (.same s0), va, hx1, hsl, tup' hu s0, hw, hv, fun t' G2 s2 ht' => ?_⟩
        obtain rfl : t = t' := by
          rw [ht] at ht'
          exact List.head_eq_of_cons_eq ht'
        have gD3 := s2 _ _ gD2
        walk_at "rd"
        refine r_notW (tb_or _) ?_
        rw [tb_true, ← eb]
        refine ⟨_, rfl, ?_⟩
        cases hz2 : z.2 with
        | true =>
          refine i_F rfl ?_
          exact ⟨s1.trans s2, by rw [if_pos rfl, List.map_nil, List.append_nil]; exact gD3⟩
        | false =>
          refine i_T rfl ?_
          walk_at "rd"
          rw [if_neg Bool.false_ne_true, List.map_cons, er2]
          first
          | exact ⟨_, gD3, hsz, same_mut (s1.trans s2) hD2, upd_same⟩
          | exact ⟨gD3, hsz, same_mut (s1.trans s2) hD2, upd_same⟩
      · rintro G2 ⟨s2, gD2⟩
        rw [List.length_map, List.take_length] at gD2
        have gD1 := s2 _ _ gD
        have s02 := s.trans s2
        have pv : ∀ d u H', Same G2 H' → H' d = some (.lst [.int (mkR zs), u]) → PairV K H' zs u → Q (.ref d) H' := fun d u H' s3 h1 h2 => k d u H' (s02.trans s3) h1 h2
        unfold PairV mkR at pv
        have q1 : SqL K G2 D _ := sql gD1
        have q2 : SqL K G2 D2 _ := sql gD2
        walk_at "rd"
        cases hi : ins zs with
        | nil =>
          rw [hi] at pv
          refine i_T (by simp) ?_
          walk_at "rd"
          refine fun p hp => alc _ hp (fun G3 s3 g3 => ?_)
          exact pv _ _ _ s3 g3 rfl
        | cons x r =>
          rw [hi] at gD1 pv q1
          refine i_F (by simp; omega) ?_
          walk_at "rd"
          cases ho : outs zs with
          | nil =>
            rw [ho] at pv
            refine i_T (by simp) ?_
            walk_at "rd"
            refine fun p hp => alc _ hp (fun G3 s3 g3 => ?_)
            exact pv _ _ _ s3 g3 rfl
          | cons y r2 =>
            rw [ho] at gD2 pv q2
            refine i_F (by simp; omega) ?_
            rw [List.map_cons] at q1 q2
            walk_at "rd"
            refine fun p hp => alc _ hp (fun G3 s3 g3 => ?_)
            walk_at "rd"
            refine fun p2 hp2 => alc _ hp2 (fun G4 s4 g4 => ?_)
            exact pv _ _ _ (s3.trans s4) g4 ⟨p, rfl, sqt (s4 _ _ g3)⟩
end

def spLaw (K : PySem.W.Frag) : Sp := fun vs H Q _ => ∃ (a : Addr) (ns : List Int), vs = [.ref a] ∧ SqL K H a (ns.map V.int) ∧ ns.length ≤ 63 ∧ ∀ H', Q (.bl true) H'
section
variable {K : PySem.W.Frag} {w : Nat} {t : Tr} {H : Hp}
theorem als_vni : ∀ {us : List V}, (∀ x ∈ us, VNI x) → Als K H us us us.length
  | [], _ => .nil
  | x :: us, h => by
    have ih := als_vni (us := us) fun y hy => h y (List.mem_cons_of_mem _ hy)
    have h1 : Al K H x x 1 := by
      rcases h x List.mem_cons_self with rfl | ⟨i, rfl⟩
      · exact .non
      · exact .int i
    rw [List.length_cons, Nat.add_comm]
    exact .cons h1 ih
theorem al_hrow {z : V × Bool} (h : HRow K w t H z) : ∃ n, n ≤ 4 ∧ Al K H z.1 z.1 n := by
  obtain ⟨r, us, er, hu, hw, h3, hv, eb⟩ := h
  rw [er]
  exact ⟨us.length + 1, by omega, .tup hu hu (als_vni hv)⟩
theorem als_hrs : ∀ {zs : List (V × Bool)}, HRs K w t H zs → ∃ n, n ≤ 4 * zs.length ∧ Als K H (zs.map Prod.fst) (zs.map Prod.fst) n
  | [], _ => ⟨0, Nat.le_refl _, .nil⟩
  | z :: zs, h => by
    obtain ⟨n, hn, e⟩ := als_hrs (zs := zs) fun y hy => h y (List.mem_cons_of_mem _ hy)
    obtain ⟨m, hm, e1⟩ := al_hrow (h z List.mem_cons_self)
    exact ⟨m + n, by rw [List.length_cons]; omega, .cons e1 e⟩
theorem al_pair {zs : List (V × Bool)} {u u' : V} (h : HRs K w t H zs) (h1 : PairV K H zs u) (h2 : PairV K H zs u') : ∃ n, n ≤ 10 ∧ Al K H u u' n := by
  have hi : ∀ z ∈ ins zs, HRow K w t H z := fun z hz => h z (List.mem_filter.mp hz).1
  have ho : ∀ z ∈ outs zs, HRow K w t H z := fun z hz => h z (List.mem_filter.mp hz).1
  unfold PairV at h1 h2
  cases e1 : ins zs with
  | nil =>
    rw [e1] at h1 h2
    dsimp only at h1 h2
    rw [h1, h2]
    exact ⟨1, by decide, .non⟩
  | cons x r =>
    cases e2 : outs zs with
    | nil =>
      rw [e1, e2] at h1 h2
      dsimp only at h1 h2
      rw [h1, h2]
      exact ⟨1, by decide, .non⟩
    | cons y r2 =>
      rw [e1, e2] at h1 h2
      obtain ⟨q, rfl, a⟩ := h1
      obtain ⟨q', rfl, a'⟩ := h2
      obtain ⟨n, hn, b⟩ := al_hrow (hi x (by rw [e1]; exact List.mem_cons_self))
      obtain ⟨m, hm, c⟩ := al_hrow (ho y (by rw [e2]; exact List.mem_cons_self))
      exact ⟨n + (m + 0) + 1, by omega, .tup a a' (.cons b (.cons c .nil))⟩
theorem HRs.snoc {zs : List (V × Bool)} {r : Addr} {us : List V} (h : HRs K w t H zs) (hu : SqT K H r us) (hw : w ≤ us.length) (h3 : us.length ≤ 3) (hv : ∀ x ∈ us, VNI x) : HRs K w t H (zs ++ [(.ref r, decide (ev us t = some true))]) := fun z hz => by
  rcases List.mem_append.mp hz with hz | hz
  · exact h z hz
  · rw [List.mem_singleton] at hz
    rw [hz]
    exact ⟨r, us, rfl, hu, hw, h3, hv, rfl⟩
end
section
variable {P : Program} {w : World} {K : PySem.W.Frag} {mg : Str → Option Value} {base : Heap}
theorem ok_law {f : Addr} {fd : FuncData} (F : Fun K "law" "law" s_law f fd) (T : Txt K mg) : FnOk P w K mg base CX0 22 f fd ["_law_script"] (spLaw K) := by
  refine F.ok sc_law (fun vs H Q E h => ?_) (fun cdv A outer s H vs Q E hr h => ⟨_, (pss_cons (ps_set (i := 1) sc_law.nd rfl (.inl rfl) (pe_call (ok_stream T) (hr.mono (by decide)) (by rfl) T.g_stream T.F_stream.kp T.b_stream .nil pass0 (pa_cons (pv 0) pa_nil)))
      (pss_cons (ps_set (i := 2) sc_law.nd rfl (.inl rfl) (pe_call (ok_pool T) (hr.mono (by decide)) (by rfl) T.g_pool T.F_pool.kp T.b_pool .nil pass0 (pa_cons (pv 1) (pa_cons (pe_op op_add pe_int (pe_call (ok_draw T) (hr.mono (by decide)) (by rfl) T.g_draw T.F_draw.kp T.b_draw .nil pass0 (pa_cons (pv 1) (pa_cons pe_int pa_nil)))) pa_nil))))
      (pss_cons (ps_set (i := 3) sc_law.nd rfl (.inr rfl) (pe_call (ok_recipe T) (hr.mono (by decide)) (by rfl) T.g_recipe T.F_recipe.kp T.b_recipe .nil pass0 (pa_cons (pv 1) (pa_cons (pv 2) (pa_cons pe_int pa_nil)))))
      (pss_cons (ps_set (i := 4) sc_law.nd rfl (.inl rfl) (pe_call (ok_built T) (hr.mono (by decide)) (by rfl) T.g_built T.F_built.kp T.b_built .nil pass0 (pa_cons (pv 3) pa_nil)))
      (pss_cons (ps_set (i := 5) sc_law.nd rfl (.inl rfl) (pe_lst pa_nil))
      (pss_cons (ps_for PassesOwn.never rfl (pi_range1 (by rfl) T.z_range (pa_cons (pe_call (ok_draw T) (hr.mono (by decide)) (by rfl) T.g_draw T.F_draw.kp T.b_draw .nil pass0 (pa_cons (pv 1) (pa_cons pe_int pa_nil))) pa_nil)) (pg_name (i := 6) sc_law.nd rfl (.inl rfl))
      (pss_one (ps_if (PW.pt (pw_and (pt_cmpR op_gt (pv 6) pe_int (nomark _)) (pw_and1 (pt_cmpR op_eq (pe_call (ok_draw T) (hr.mono (by decide)) (by rfl) T.g_draw T.F_draw.kp T.b_draw .nil pass0 (pa_cons (pv 1) (pa_cons pe_int pa_nil))) pe_int (nomark _)))))
      (pss_one (ps_expr (pe_bm PySem.F.plainAttrs_list PySem.F.slot_list_append PySem.F.type_list_append mt_append (pv 5) (pa_cons (pe_ix ix_list (pv 5) pe_int (fun _ _ => rfl)) pa_nil))))
      (pss_one (ps_expr (pe_bm PySem.F.plainAttrs_list PySem.F.slot_list_append PySem.F.type_list_append mt_append (pv 5) (pa_cons (pe_call (ok_row T) (hr.mono (by decide)) (by rfl) T.g_row T.F_row.kp T.b_row .nil pass0 (pa_cons (pv 1) (pa_cons (pv 2) pa_nil))) pa_nil)))))))
      (pss_cons (ps_setLc (i := 7) (own := [("_law_row_here", 13)]) (g := gName 13) rfl sc_law.nd rfl rfl (sw_true rfl rfl rfl (by decide +kernel)) (pi_list (pv 5)) (blkOk_by (own := [("_law_row_here", 13)]) (N := N_law) (sc := defScope s_law) (by decide +kernel)) (fun _ _ _ _ _ => pg_name (i := 13) sc_law.nd rfl (Or.inl rfl)) (fun _ _ _ _ _ => pts_one (pt_cmpR op_isW (pe_call (ok_judged T) (hr.mono (by decide)) (by rfl) T.g_judged T.F_judged.kp T.b_judged .nil pass0 (pa_cons (pv 3) (pa_cons (pv 13) pa_nil))) pe_bl (nomark _))) (fun _ _ _ _ _ => (pv 13)))
      (pss_cons (ps_setLc (i := 8) (own := [("_law_row_here", 13)]) (g := gName 13) rfl sc_law.nd rfl rfl (sw_true rfl rfl rfl (by decide +kernel)) (pi_list (pv 5)) (blkOk_by (own := [("_law_row_here", 13)]) (N := N_law) (sc := defScope s_law) (by decide +kernel)) (fun _ _ _ _ _ => pg_name (i := 13) sc_law.nd rfl (Or.inl rfl)) (fun _ _ _ _ _ => pts_one (pt_cmpR op_notW (pe_call (ok_judged T) (hr.mono (by decide)) (by rfl) T.g_judged T.F_judged.kp T.b_judged .nil pass0 (pa_cons (pv 3) (pa_cons (pv 13) pa_nil))) pe_bl (nomark _))) (fun _ _ _ _ _ => (pv 13)))
      (pss_cons (ps_set (i := 9) sc_law.nd rfl (.inl rfl) (pe_call (ok_draw T) (hr.mono (by decide)) (by rfl) T.g_draw T.F_draw.kp T.b_draw .nil pass0 (pa_cons (pv 1) (pa_cons pe_int pa_nil))))
      (Evl.pss_cut (ps_if (pt_cmpR op_eq (pv 9) pe_int (nomark _))
      (pss_one (ps_set (i := 5) sc_law.nd rfl (.inl rfl) (pv 7)))
      pss_nil)
      (Evl.pss_cut (ps_if (pt_cmpR op_eq (pv 9) pe_int (nomark _))
      (pss_one (ps_set (i := 5) sc_law.nd rfl (.inl rfl) (pv 8)))
      pss_nil)
      (Evl.pss_cut (ps_if (pt_cmpR op_eq (pv 9) pe_int (nomark _))
      (pss_one (ps_set (i := 5) sc_law.nd rfl (.inl rfl) (pe_op op_cat (pv 7) (pv 8))))
      pss_nil)
      (pss_cons (ps_for PassesOwn.never rfl (pi_list (pe_lst (pa_cons (pe_callTy call_list_of (by rfl) T.z_list (by decide +kernel) (pa_cons (pv 5) pa_nil)) (pa_cons (RT.pe_lstRev rfl (by rfl) T.z_list (by rfl) T.z_reversed (pv 5)) pa_nil)))) (pg_name (i := 10) sc_law.nd rfl (.inl rfl))
      (pss_cons (ps_set (i := 11) sc_law.nd rfl (.inl rfl) (pe_callTy call_list_of (by rfl) T.z_list (by decide +kernel) (pa_cons (pv 10) pa_nil)))
      (pss_cons (ps_set (i := 12) sc_law.nd rfl (.inl rfl) (pe_lst (pa_cons (pe_call (ok_rows_mark T) (hr.mono (by decide)) (by rfl) T.g_rows_mark T.F_rows_mark.kp T.b_rows_mark .nil pass0 (pa_cons (pv 4) (pa_cons (pv 10) pa_nil))) (pa_cons (pe_call (ok_rows_pair T) (hr.mono (by decide)) (by rfl) T.g_rows_pair T.F_rows_pair.kp T.b_rows_pair .nil pass0 (pa_cons (pv 4) (pa_cons (pv 10) pa_nil))) pa_nil))))
      (pss_one (ps_if (PW.pt (pw_or (pt_not (pt_val (pe_call (ok_alike T) (hr.mono (by decide)) (by rfl) T.g_alike T.F_alike.kp T.b_alike .nil pass0 (pa_cons (pv 12) (pa_cons (pe_call (ok_rows_due T) (hr.mono (by decide)) (by rfl) T.g_rows_due T.F_rows_due.kp T.b_rows_due .nil pass0 (pa_cons (pv 3) (pa_cons (pv 11) pa_nil))) pa_nil))))) (pw_or1 (pt_not (pt_val (pe_call (ok_alike T) (hr.mono (by decide)) (by rfl) T.g_alike T.F_alike.kp T.b_alike .nil pass0 (pa_cons (pv 10) (pa_cons (pv 11) pa_nil))))))))
      (pss_one (ps_ret pe_bl))
      pss_nil)))))
      (pss_one (ps_ret pe_bl))))))))))))))), ?_⟩)
  · first | (obtain ⟨rfl, _⟩ := h; rfl) | (obtain ⟨_, rfl, _⟩ := h; rfl) | (obtain ⟨_, _, rfl, _⟩ := h; rfl) | (obtain ⟨_, _, _, rfl, _⟩ := h; rfl) | (obtain ⟨_, _, _, _, rfl, _⟩ := h; rfl) | (obtain ⟨_, _, _, _, _, rfl, _⟩ := h; rfl) | (obtain ⟨_, _, _, _, _, _, rfl, _⟩ := h; rfl) | (obtain ⟨_, _, _, _, _, _, _, rfl, _⟩ := h; rfl) | (obtain ⟨_, _, _, _, _, _, _, _, rfl, _⟩ := h; rfl) | (obtain ⟨_, _, _, _, _, _, _, _, _, rfl, _⟩ := h; rfl) | (obtain ⟨_, _, _, _, _, _, _, _, _, _, rfl, _⟩ := h; rfl) | (obtain ⟨_, _, _, _, _, _, _, _, _, _, _, rfl, _⟩ := h; rfl) | (obtain ⟨_, _, _, _, _, _, _, _, _, _, _, _, rfl, _⟩ := h; rfl) | (obtain ⟨_, _, _, _, _, _, _, _, _, _, _, _, _, rfl, _⟩ := h; rfl) | (obtain ⟨_, _, _, _, _, _, _, _, _, _, _, _, _, _, rfl, _⟩ := h; rfl)
  · obtain ⟨a, ns, rfl, hS, hl, k⟩ := h
    try dsimp only [cxOf, Cx.nox, Cx.wish]
    refine st_of (σ := [some _, none, none, none, none, none, none, none, none, none, none, none, none, none]) rfl ?_
    walk_at "rd"
    refine ⟨a, ns, rfl, hS, hl, fun S L H1 _ _ st1 => ?_⟩
    walk_at "rd"
    refine use_draw st1 (by decide) (by decide) (fun w0 H2 w1 w2 x2 st2 => ?_)
    walk_at "rd"
    obtain ⟨wn, hw⟩ : ∃ wn : Nat, 1 + w0 = (wn : Int) := ⟨(1 + w0).toNat, by omega⟩
    rw [hw]
    refine ⟨S, L, ns, wn, rfl, st2, by omega, by omega, fun p qs H3 _ x3 st3 pl hlen => ?_⟩
    walk_at "rd"
    refine ⟨S, L, ns, p, qs, 8, rfl, st3, pl, by omega, by omega, by decide, by decide, fun q xs ss H4 hq x4 st4 hq4 sp va hx1 hx16 => ?_⟩
    have pl4 := pl.ex x4
    have nqS := st3.neS hq
    walk_at "rd"
    refine ⟨q, xs, ss, qs.length, rfl, sql hq4, sp, va, hx1, by omega, fun v t m H5 s5 ht pt hm => ?_⟩
    have st5 := st4.same s5
    have hq5 := s5 _ _ hq4
    have sp5 := sp.keep (.same s5)
    have pl5 : Pool S H5 p qs := pl4.ex (fun _ _ _ h => s5 _ _ h)
    walk_at "rd"
    refine fun R hR => alc _ hR (fun H6 s6 g6 => ?_)
    have nRS := st5.neS hR
    have nRL := st5.neL hR
    have st6 := st5.same s6
    walk_at "rd"
    with_reducible refine c_rng1 ?_
    walk_at "rd"
    refine use_draw st6 (by decide) (by decide) (fun r H7 r0 r1 x7 st7 => ?_)
    have g7 := x7 _ _ nRS g6
    have x57 : Ex S H5 H7 := Ex.trans (fun _ _ _ h => s6 _ _ h) x7
    walk_at "rd"
    refine ⟨by omega, by omega, for_range (lo := 0) (n := r.toNat) (fun i σ G => ∃ (zs : List (V × Bool)) (e6 : Option V), σ = [some (.ref a), some (.ref S), some (.ref p), some (.ref q), some v, some (.ref R), e6, none, none, none, none, none, none, none] ∧
      Strm S L ns G ∧ Ex S H5 G ∧ G R = some (.lst (zs.map Prod.fst)) ∧ zs.length = i ∧ HRs K qs.length t G zs) ?_ ?_ ?_⟩
    · exact ⟨[], _, rfl, st7, x57, g7, rfl, fun x hx => nomatch hx⟩
    · rintro i σ G hi ⟨zs, e6, rfl, stG, xG, gR, hzl, hrs⟩
      have hsz : (zs.map Prod.fst).length < sizeLine := smallLt (by rw [List.length_map]; omega)
      have plG : Pool S G p qs := pl5.ex xG
      have fin : ∀ (G2 : Hp) (tt : Addr) (us : List V) (e : Option V), Ex S G G2 → Strm S L ns G2 → SqT K G2 tt us → qs.length ≤ us.length → us.length ≤ 3 → (∀ z ∈ us, VNI z) →
          ∃ (zs' : List (V × Bool)) (f6 : Option V), [some (V.ref a), some (V.ref S), some (V.ref p), some (V.ref q), some v, some (V.ref R), e, none, none, none, none, none, none, none] = [some (.ref a), some (.ref S), some (.ref p), some (.ref q), some v, some (.ref R), f6, none, none, none, none, none, none, none] ∧
            Strm S L ns (upd G2 R (.lst (zs.map Prod.fst ++ [.ref tt]))) ∧ Ex S H5 (upd G2 R (.lst (zs.map Prod.fst ++ [.ref tt]))) ∧ (upd G2 R (.lst (zs.map Prod.fst ++ [.ref tt]))) R = some (.lst (zs'.map Prod.fst)) ∧ zs'.length = i + 1 ∧ HRs K qs.length t (upd G2 R (.lst (zs.map Prod.fst ++ [.ref tt]))) zs' := by
        intro G2 tt us e x8 st8 h1 h2 h3 h4
        have tp : Tp G2 (upd G2 R (.lst (zs.map Prod.fst ++ [.ref tt]))) := Tp.lst (Tp.refl _) (x8 _ _ nRS gR)
        exact ⟨zs ++ [(.ref tt, decide (ev us t = some true))], e, rfl, st8.upd nRS nRL, Ex.mut (xG.trans x8) hR, by rw [upd_same, List.map_append]; rfl, by simp [hzl], ((hrs.keep (stG.tp x8)).keep tp).snoc (tp.tup h1) h2 h3 h4⟩
      walk_at "rd"
      by_cases hi0 : i = 0
      · refine i_F (by simp; omega) ?_
        walk_at "rd"
        refine ⟨S, L, ns, p, qs, rfl, stG, plG, by omega, fun tt us G2 _ x9 st9 htt hul hro _ => ?_⟩
        have gR2 := x9 _ _ nRS gR
        walk_at "rd"
        exact fin G2 tt us _ x9 st9 (sqt htt) (by omega) (by omega) (fun z hz => row_vni hro hz)
      · refine i_T (by simp; omega) ?_
        walk_at "rd"
        refine use_draw stG (by decide) (by decide) (fun d G1 d0 d1 x8 st8 => ?_)
        have gR1 := x8 _ _ nRS gR
        walk_at "rd"
        refine i_d (fun hd => ?_) (fun hd => ?_)
        · have hz0 : 0 < zs.length := by omega
          obtain ⟨r0, us0, er, hu, hw0, h3, hv, eb⟩ := hrs _ (List.getElem_mem hz0)
          walk_at "rd"
          refine r_ixL (sql gR1) (atI_nat (j := 0) (v := .ref r0) (by rw [List.getElem?_map, List.getElem?_eq_getElem hz0, ← er]; rfl)) ?_
          walk_at "rd"
          exact fin G1 r0 us0 _ x8 st8 ((stG.tp x8).tup hu) hw0 h3 hv
        · walk_at "rd"
          refine ⟨S, L, ns, p, qs, rfl, st8, plG.ex x8, by omega, fun tt us G2 _ x9 st9 htt hul hro _ => ?_⟩
          have gR2 := (x8.trans x9) _ _ nRS gR
          walk_at "rd"
          exact fin G2 tt us _ (x8.trans x9) st9 (sqt htt) (by omega) (by omega) (fun z hz => row_vni hro hz)
    · rintro σ G ⟨zs, e6, rfl, stG, xG, gR, hzl, hrs⟩
      have hzl12 : zs.length ≤ 12 := by omega
      have tpG : Tp H5 G := st5.tp xG
      have spG := sp5.keep tpG
      have ptG := pt.keep tpG
      have gq : G q = some (.lst xs) := xG _ _ nqS hq5
      have qq : SqL K G q xs := sql gq
      have qR : SqL K G R _ := sql gR
      walk_at "rd"
      with_reducible refine c_lcL ?_
      walk_at "rd"
      refine ⟨⟨_, qR⟩, fun D hD => walkL (xs := zs.map Prod.fst) (fun i G' => Same G G' ∧ G' D = some (.lst ((ins (zs.take i)).map Prod.fst))) ?_ ?_ ?_ ?_⟩
      · exact ⟨same_new (Same.refl _) hD, upd_same⟩
      · rintro i G' _ ⟨s, _⟩
        exact seq' qR s
      · rintro i x G' hi ⟨s, gD⟩
        obtain ⟨z, hz, rfl⟩ := get_map hi
        obtain ⟨r1, us, er, hu, hw, h3, hv, eb⟩ := hrs z (List.mem_of_getElem? hz)
        have il := ins_len (zs.take i)
        have iz : i < zs.length := (List.getElem?_eq_some_iff.mp hz).1
        rw [List.length_take] at il
        have hsz : ((ins (zs.take i)).map Prod.fst).length < sizeLine := smallLt (by rw [List.length_map]; omega)
        rw [ins_take hz, List.map_append]
        have er2 := er
        rw [er]
        walk_at "rd"
        refine ⟨rfl, ?_⟩
        walk_at "rd"
        refine ⟨q, r1, xs, ss, qs.length, us, rfl, seq' qq s, spG.keep (.same s), va, hx1, by omega, tup' hu s, hw, hv, fun t' G2 s2 ht' => ?_⟩
        obtain rfl : t = t' := by
          rw [ht] at ht'
          exact List.head_eq_of_cons_eq ht'
        have gD2 := s2 _ _ gD
        walk_at "rd"
        refine r_isW (tb_or _) ?_
        rw [tb_true, ← eb]
        refine ⟨_, rfl, ?_⟩
        cases hz2 : z.2 with
        | true =>
          refine i_T rfl ?_
          walk_at "rd"
          rw [if_pos rfl, List.map_cons, er2]
          first
          | exact ⟨_, gD2, hsz, same_mut (s.trans s2) hD, upd_same⟩
          | exact ⟨gD2, hsz, same_mut (s.trans s2) hD, upd_same⟩
        | false =>
          refine i_F rfl ?_
          exact ⟨s.trans s2, by rw [if_neg Bool.false_ne_true, List.map_nil, List.append_nil]; exact gD2⟩
      rintro Ga ⟨sa, gD⟩
      rw [List.length_map, List.take_length] at gD
      have qRa := seq' qR sa
      walk_at "rd"
      with_reducible refine c_lcL ?_
      walk_at "rd"
      refine ⟨⟨_, qRa⟩, fun D2 hD2 => walkL (xs := zs.map Prod.fst) (fun i G' => Same Ga G' ∧ G' D2 = some (.lst ((outs (zs.take i)).map Prod.fst))) ?_ ?_ ?_ ?_⟩
      · exact ⟨same_new (Same.refl _) hD2, upd_same⟩
      · rintro i G' _ ⟨s2, _⟩
        exact seq' qRa s2
      · rintro i x G' hi ⟨s1, gD2⟩
        obtain ⟨z, hz, rfl⟩ := get_map hi
        obtain ⟨r1, us, er, hu, hw, h3, hv, eb⟩ := hrs z (List.mem_of_getElem? hz)
        have il := outs_len (zs.take i)
        have iz : i < zs.length := (List.getElem?_eq_some_iff.mp hz).1
        rw [List.length_take] at il
        have hsz : ((outs (zs.take i)).map Prod.fst).length < sizeLine := smallLt (by rw [List.length_map]; omega)
        rw [outs_take hz, List.map_append]
        have er2 := er
        rw [er]
        have s0 := sa.trans s1
        walk_at "rd"
        refine ⟨rfl, ?_⟩
        walk_at "rd"
        refine ⟨q, r1, xs, ss, qs.length, us, rfl, seq' qq s0, spG.keep (.same s0), va, hx1, by omega, tup' hu s0, hw, hv, fun t' G2 s2 ht' => ?_⟩
        obtain rfl : t = t' := by
          rw [ht] at ht'
          exact List.head_eq_of_cons_eq ht'
        have gD3 := s2 _ _ gD2
        walk_at "rd"
        refine r_notW (tb_or _) ?_
        rw [tb_true, ← eb]
        refine ⟨_, rfl, ?_⟩
        cases hz2 : z.2 with
        | true =>
          refine i_F rfl ?_
          exact ⟨s1.trans s2, by rw [if_pos rfl, List.map_nil, List.append_nil]; exact gD3⟩
        | false =>
          refine i_T rfl ?_
          walk_at "rd"
          rw [if_neg Bool.false_ne_true, List.map_cons, er2]
          first
          | exact ⟨_, gD3, hsz, same_mut (s1.trans s2) hD2, upd_same⟩
          | exact ⟨gD3, hsz, same_mut (s1.trans s2) hD2, upd_same⟩
      rintro Gb ⟨sb, gD2⟩
      rw [List.length_map, List.take_length] at gD2
      have gDb := sb _ _ gD
      have sab := sa.trans sb
      have nDS := (stG.same sa).neS hD2
      have nDS1 := stG.neS hD
      walk_at "rd"
      refine use_draw (stG.same sab) (by decide) (by decide) (fun way Gc y0 y1 xc stc => ?_)
      have gRc := xc _ _ nRS (sab _ _ gR)
      have gDc := xc _ _ nDS1 gDb
      have gD2c := xc _ _ nDS gD2
      have gqc := xc _ _ nqS (sab _ _ gq)
      have tpc : Tp G Gc := (Tp.same sab).trans ((stG.same sab).tp xc)
      have spc := spG.keep tpc
      have ptc := ptG.keep tpc
      have hrc := hrs.keep tpc
      have hri : HRs K qs.length t Gc (ins zs) := hrc.sub fun z hz => (List.mem_filter.mp hz).1
      have hro : HRs K qs.length t Gc (outs zs) := hrc.sub fun z hz => (List.mem_filter.mp hz).1
      have lin := ins_len zs
      have lou := outs_len zs
      have lbo := ins_both zs
      have nxt : ∀ (RR : Addr) (zz : List (V × Bool)) (G' : Hp), Same Gc G' → G' RR = some (.lst (zz.map Prod.fst)) → HRs K qs.length t Gc zz → zz.length ≤ 12 → ∃ (RR' : Addr) (zz' : List (V × Bool)), RR = RR' ∧ Same Gc G' ∧ G' RR' = some (.lst (zz'.map Prod.fst)) ∧ HRs K qs.length t Gc zz' ∧ zz'.length ≤ 12 := fun RR zz G' s1 s2 s3 s4 => ⟨RR, zz, rfl, s1, s2, s3, s4⟩
      walk_at "rd"
      refine ⟨fun σ' G' => ∃ (RR : Addr) (zz : List (V × Bool)), σ' = [some (.ref a), some (.ref S), some (.ref p), some (.ref q), some v, some (.ref RR), e6, some (.ref D), some (.ref D2), some (.int way), none, none, none, none] ∧ Same Gc G' ∧ G' RR = some (.lst (zz.map Prod.fst)) ∧ HRs K qs.length t Gc zz ∧ zz.length ≤ 12, ?_, ?_⟩
      · walk_at "rd"
        refine i_d (fun hy => ?_) (fun hy => ?_)
        · walk_at "rd"
          exact ⟨D, ins zs, rfl, Same.refl _, gDc, hri, by omega⟩
        · walk_at "rd"
          exact ⟨R, zs, rfl, Same.refl _, gRc, hrc, hzl12⟩
      rintro σ' Gd ⟨RR, zz, rfl, sd, gRR, hzz, lzz⟩
      walk_at "rd"
      refine ⟨fun σ' G' => ∃ (RR : Addr) (zz : List (V × Bool)), σ' = [some (.ref a), some (.ref S), some (.ref p), some (.ref q), some v, some (.ref RR), e6, some (.ref D), some (.ref D2), some (.int way), none, none, none, none] ∧ Same Gc G' ∧ G' RR = some (.lst (zz.map Prod.fst)) ∧ HRs K qs.length t Gc zz ∧ zz.length ≤ 12, ?_, ?_⟩
      · walk_at "rd"
        refine i_d (fun hy => ?_) (fun hy => ?_)
        · walk_at "rd"
          exact ⟨D2, outs zs, rfl, sd, sd _ _ gD2c, hro, by omega⟩
        · walk_at "rd"
          exact ⟨RR, zz, rfl, sd, gRR, hzz, lzz⟩
      clear gRR hzz lzz sd
      rintro σ' Ge ⟨RR, zz, rfl, se, gRR, hzz, lzz⟩
      walk_at "rd"
      refine ⟨fun σ' G' => ∃ (RR : Addr) (zz : List (V × Bool)), σ' = [some (.ref a), some (.ref S), some (.ref p), some (.ref q), some v, some (.ref RR), e6, some (.ref D), some (.ref D2), some (.int way), none, none, none, none] ∧ Same Gc G' ∧ G' RR = some (.lst (zz.map Prod.fst)) ∧ HRs K qs.length t Gc zz ∧ zz.length ≤ 12, ?_, ?_⟩
      · walk_at "rd"
        refine i_d (fun hy => ?_) (fun hy => ?_)
        · walk_at "rd"
          refine r_cat (se _ _ gDc) (se _ _ gD2c) (small (by simp; omega)) (fun RC hRC => ?_)
          walk_at "rd"
          exact ⟨RC, ins zs ++ outs zs, rfl, same_new se hRC, by rw [List.map_append]; exact upd_same, hri.app hro, by rw [List.length_append]; omega⟩
        · walk_at "rd"
          exact ⟨RR, zz, rfl, se, gRR, hzz, lzz⟩
      clear gRR hzz lzz se
      rintro σ' Gf ⟨RR, zz, rfl, sf, gRR, hzz, lzz⟩
      have qRR : SqL K Gf RR _ := sql gRR
      walk_at "rd"
      with_reducible refine c_forList ?_
      walk_at "rd"
      refine fun l1 hl1 => alc _ hl1 (fun Gg s7 g7a => ?_)
      have qRRg := seq' qRR s7
      walk_at "rd"
      with_reducible refine c_lstRev ?_
      walk_at "rd"
      refine ⟨RR, _, rfl, qRRg, fun l2 hl2 => alc _ hl2 (fun Gh s8 g8a => ?_)⟩
      walk_at "rd"
      refine fun o ho => alc _ ho (fun G0 s9 g9 => ?_)
      have s79 := (s7.trans s8).trans s9
      have g1 : G0 l1 = some (.lst (zz.map Prod.fst)) := s9 _ _ (s8 _ _ g7a)
      have g2 : G0 l2 = some (.lst (zz.reverse.map Prod.fst)) := by
        rw [List.map_reverse]
        exact s9 _ _ g8a
      have s0 : Same Gc G0 := sf.trans s79
      have sp0 := spc.keep (.same s0)
      have pt0 := ptc.keep (.same s0)
      have gq0 := s0 _ _ gqc
      have hzr : HRs K qs.length t Gc zz.reverse := hzz.sub fun z hz => List.mem_reverse.mp hz
      have pick : ∀ (i : Nat) (x : V), [V.ref l1, V.ref l2][i]? = some x → ∃ (l : Addr) (z2 : List (V × Bool)), x = .ref l ∧ G0 l = some (.lst (z2.map Prod.fst)) ∧ HRs K qs.length t G0 z2 ∧ z2.length ≤ 12 := by
        intro i x hi
        match i, hi with
        | 0, hi => exact ⟨l1, zz, (Option.some.inj hi).symm, g1, hzz.keep (.same s0), lzz⟩
        | 1, hi => exact ⟨l2, zz.reverse, (Option.some.inj hi).symm, g2, hzr.keep (.same s0), by rw [List.length_reverse]; exact lzz⟩
      walk_at "rd"
      refine ⟨⟨_, sql g9⟩, for_list (xs := [.ref l1, .ref l2]) (fun i σ G => ∃ (e10 e11 e12 : Option V), σ = [some (.ref a), some (.ref S), some (.ref p), some (.ref q), some v, some (.ref RR), e6, some (.ref D), some (.ref D2), some (.int way), e10, e11, e12, none] ∧ Same G0 G) ?_ ?_ ?_ ?_⟩
      · exact ⟨_, _, _, rfl, Same.refl _⟩
      · rintro i σ G _ ⟨_, _, _, _, sm⟩
        exact sql (sm _ _ g9)
      · rintro i x σ G7 hi ⟨e10, e11, e12, rfl, sm⟩
        obtain ⟨l, z2, rfl, gl, hz2, lz2⟩ := pick i x hi
        have ql7 : SqL K G7 l _ := sql (sm _ _ gl)
        walk_at "rd"
        refine fun kk hkk => alc _ hkk (fun G8 s8b g8b => ?_)
        have sm8 := sm.trans s8b
        walk_at "rd"
        refine ⟨v, l, t, qs.length, m, z2, rfl, pt0.keep (.same sm8), by omega, sql (sm8 _ _ gl), hz2.keep (.same sm8), by omega, fun G9 s9b => ?_⟩
        have sm9 := sm8.trans s9b
        walk_at "rd"
        refine ⟨v, l, t, qs.length, m, z2, rfl, pt0.keep (.same sm9), by omega, sql (sm9 _ _ gl), hz2.keep (.same sm9), by omega, fun u G10 s10b pu => ?_⟩
        have sm10 := sm9.trans s10b
        walk_at "rd"
        refine fun tl htl => alc _ htl (fun G11 s11 g11 => ?_)
        have sm11 := sm10.trans s11
        have gkk := s11 _ _ (s10b _ _ (s9b _ _ g8b))
        walk_at "rd"
        refine ⟨q, kk, xs, ss, t, qs.length, z2, rfl, sql (sm11 _ _ gq0), sp0.keep (.same sm11), va, ht, by omega, sql gkk, hz2.keep (.same sm11), by omega, fun d u2 G12 s12 gd pd => ?_⟩
        have sm12 := sm11.trans s12
        walk_at "rd"
        have hz12 := hz2.keep (.same sm12)
        obtain ⟨n1, hn1, al1⟩ := al_pair hz12 ((pu.same s11).same s12) pd
        refine use_alike (.lst (sql (s12 _ _ g11)) (sql gd) (.cons (.int _) (.cons al1 .nil))) (by omega) (fun G13 s13 => ?_)
        have sm13 := sm12.trans s13
        walk_at "rd"
        walk_at "tf"
        walk_at "rd"
        obtain ⟨n2, hn2, al2⟩ := als_hrs (hz2.keep (.same sm13))
        refine use_alike (.lst (sql (sm13 _ _ gl)) (sql (s13 _ _ (s12 _ _ gkk))) al2) (by omega) (fun G14 s14 => ?_)
        walk_at "rd"
        walk_at "tf"
        walk_at "rd"
        exact ⟨_, _, _, rfl, sm13.trans s14⟩
      · rintro σ G ⟨_, _, _, rfl, sm⟩
        walk_at "rd"
        exact k G
end
end Tac3
theorem all_mk {l : PySem.W.OpenLaw} {w : World} {K : PySem.W.Frag} {h : Heap} {mg : Str → Option Value} {fa : Addr} (X : K.In h) (G : h.Ns mainGlobals mg) (hfa : mg "law" = some (.ref fa))
    {f0 : Addr} {od0 an0 : Option Addr} {sl0 : Array (Option Value)} {oc0 kV0 dc0 pm0 cd0 ct0 : Value}
    {f1 : Addr} {od1 an1 : Option Addr} {sl1 : Array (Option Value)} {oc1 kV1 dc1 pm1 cd1 ct1 : Value}
    {f2 : Addr} {od2 an2 : Option Addr} {sl2 : Array (Option Value)} {oc2 kV2 dc2 pm2 cd2 ct2 : Value}
    {f3 : Addr} {od3 an3 : Option Addr} {sl3 : Array (Option Value)} {oc3 kV3 dc3 pm3 cd3 ct3 : Value}
    {f4 : Addr} {od4 an4 : Option Addr} {sl4 : Array (Option Value)} {oc4 kV4 dc4 pm4 cd4 ct4 : Value}
    {f5 : Addr} {od5 an5 : Option Addr} {sl5 : Array (Option Value)} {oc5 kV5 dc5 pm5 cd5 ct5 : Value}
    {f6 : Addr} {od6 an6 : Option Addr} {sl6 : Array (Option Value)} {oc6 kV6 dc6 pm6 cd6 ct6 : Value}
    {f7 : Addr} {od7 an7 : Option Addr} {sl7 : Array (Option Value)} {oc7 kV7 dc7 pm7 cd7 ct7 : Value}
    {f8 : Addr} {od8 an8 : Option Addr} {sl8 : Array (Option Value)} {oc8 kV8 dc8 pm8 cd8 ct8 : Value}
    {f9 : Addr} {od9 an9 : Option Addr} {sl9 : Array (Option Value)} {oc9 kV9 dc9 pm9 cd9 ct9 : Value}
    {f10 : Addr} {od10 an10 : Option Addr} {sl10 : Array (Option Value)} {oc10 kV10 dc10 pm10 cd10 ct10 : Value}
    {f11 : Addr} {od11 an11 : Option Addr} {sl11 : Array (Option Value)} {oc11 kV11 dc11 pm11 cd11 ct11 : Value}
    {f12 : Addr} {od12 an12 : Option Addr} {sl12 : Array (Option Value)} {oc12 kV12 dc12 pm12 cd12 ct12 : Value}
    {f13 : Addr} {od13 an13 : Option Addr} {sl13 : Array (Option Value)} {oc13 kV13 dc13 pm13 cd13 ct13 : Value}
    {f14 : Addr} {od14 an14 : Option Addr} {sl14 : Array (Option Value)} {oc14 kV14 dc14 pm14 cd14 ct14 : Value}
    {f15 : Addr} {od15 an15 : Option Addr} {sl15 : Array (Option Value)} {oc15 kV15 dc15 pm15 cd15 ct15 : Value}
    {f16 : Addr} {od16 an16 : Option Addr} {sl16 : Array (Option Value)} {oc16 kV16 dc16 pm16 cd16 ct16 : Value}
    {f17 : Addr} {od17 an17 : Option Addr} {sl17 : Array (Option Value)} {oc17 kV17 dc17 pm17 cd17 ct17 : Value}
    {f18 : Addr} {od18 an18 : Option Addr} {sl18 : Array (Option Value)} {oc18 kV18 dc18 pm18 cd18 ct18 : Value}
    {f19 : Addr} {od19 an19 : Option Addr} {sl19 : Array (Option Value)} {oc19 kV19 dc19 pm19 cd19 ct19 : Value}
    {f20 : Addr} {od20 an20 : Option Addr} {sl20 : Array (Option Value)} {oc20 kV20 dc20 pm20 cd20 ct20 : Value}
    {f21 : Addr} {od21 an21 : Option Addr} {sl21 : Array (Option Value)} {oc21 kV21 dc21 pm21 cd21 ct21 : Value}
    {f22 : Addr} {od22 an22 : Option Addr} {sl22 : Array (Option Value)} {oc22 kV22 dc22 pm22 cd22 ct22 : Value}
    {f23 : Addr} {od23 an23 : Option Addr} {sl23 : Array (Option Value)} {oc23 kV23 dc23 pm23 cd23 ct23 : Value}
    {f24 : Addr} {od24 an24 : Option Addr} {sl24 : Array (Option Value)} {oc24 kV24 dc24 pm24 cd24 ct24 : Value}
    {f25 : Addr} {od25 an25 : Option Addr} {sl25 : Array (Option Value)} {oc25 kV25 dc25 pm25 cd25 ct25 : Value}
    {t_IN : Tok}
    {t_MAYBE : Tok}
    {t_OUT : Tok}
    {c_SIGNS : Addr}
    {dd_SIGNS : Option Addr} {nn_SIGNS : Nat} {ss_SIGNS : Array (Option Value)} {t_SIGNS_0 : Tok} {t_SIGNS_1 : Tok} {t_SIGNS_2 : Tok} {t_SIGNS_3 : Tok} {t_SIGNS_4 : Tok} {t_SIGNS_5 : Tok}
    (a0 : PySem.W.nsIn K mainGlobals "mark_of" = some (some (.ref f0)))
    (l0 : K.lookup f0 = some ⟨oc0, od0, .func (PySem.W.fnOf "mark_of" "mark_of" (defArgs s_mark_of) (defBody s_mark_of) (defScope s_mark_of) .none kV0 dc0 pm0 an0 cd0 ct0), sl0⟩)
    (c0 : PySem.W.codeIn K cd0 "mark_of" = true)
    (k0 : PySem.W.keepIn K (.ref f0) = true)
    (a1 : PySem.W.nsIn K mainGlobals "parts_of" = some (some (.ref f1)))
    (l1 : K.lookup f1 = some ⟨oc1, od1, .func (PySem.W.fnOf "parts_of" "parts_of" (defArgs s_parts_of) (defBody s_parts_of) (defScope s_parts_of) .none kV1 dc1 pm1 an1 cd1 ct1), sl1⟩)
    (c1 : PySem.W.codeIn K cd1 "parts_of" = true)
    (k1 : PySem.W.keepIn K (.ref f1) = true)
    (a2 : PySem.W.nsIn K mainGlobals "compares" = some (some (.ref f2)))
    (l2 : K.lookup f2 = some ⟨oc2, od2, .func (PySem.W.fnOf "compares" "compares" (defArgs s_compares) (defBody s_compares) (defScope s_compares) .none kV2 dc2 pm2 an2 cd2 ct2), sl2⟩)
    (c2 : PySem.W.codeIn K cd2 "compares" = true)
    (k2 : PySem.W.keepIn K (.ref f2) = true)
    (a3 : PySem.W.nsIn K mainGlobals "comparison_truth" = some (some (.ref f3)))
    (l3 : K.lookup f3 = some ⟨oc3, od3, .func (PySem.W.fnOf "comparison_truth" "comparison_truth" (defArgs s_comparison_truth) (defBody s_comparison_truth) (defScope s_comparison_truth) .none kV3 dc3 pm3 an3 cd3 ct3), sl3⟩)
    (c3 : PySem.W.codeIn K cd3 "comparison_truth" = true)
    (k3 : PySem.W.keepIn K (.ref f3) = true)
    (a4 : PySem.W.nsIn K mainGlobals "both_truth" = some (some (.ref f4)))
    (l4 : K.lookup f4 = some ⟨oc4, od4, .func (PySem.W.fnOf "both_truth" "both_truth" (defArgs s_both_truth) (defBody s_both_truth) (defScope s_both_truth) .none kV4 dc4 pm4 an4 cd4 ct4), sl4⟩)
    (c4 : PySem.W.codeIn K cd4 "both_truth" = true)
    (k4 : PySem.W.keepIn K (.ref f4) = true)
    (a5 : PySem.W.nsIn K mainGlobals "either_truth" = some (some (.ref f5)))
    (l5 : K.lookup f5 = some ⟨oc5, od5, .func (PySem.W.fnOf "either_truth" "either_truth" (defArgs s_either_truth) (defBody s_either_truth) (defScope s_either_truth) .none kV5 dc5 pm5 an5 cd5 ct5), sl5⟩)
    (c5 : PySem.W.codeIn K cd5 "either_truth" = true)
    (k5 : PySem.W.keepIn K (.ref f5) = true)
    (a6 : PySem.W.nsIn K mainGlobals "negation_truth" = some (some (.ref f6)))
    (l6 : K.lookup f6 = some ⟨oc6, od6, .func (PySem.W.fnOf "negation_truth" "negation_truth" (defArgs s_negation_truth) (defBody s_negation_truth) (defScope s_negation_truth) .none kV6 dc6 pm6 an6 cd6 ct6), sl6⟩)
    (c6 : PySem.W.codeIn K cd6 "negation_truth" = true)
    (k6 : PySem.W.keepIn K (.ref f6) = true)
    (a7 : PySem.W.nsIn K mainGlobals "truth" = some (some (.ref f7)))
    (l7 : K.lookup f7 = some ⟨oc7, od7, .func (PySem.W.fnOf "truth" "truth" (defArgs s_truth) (defBody s_truth) (defScope s_truth) .none kV7 dc7 pm7 an7 cd7 ct7), sl7⟩)
    (c7 : PySem.W.codeIn K cd7 "truth" = true)
    (k7 : PySem.W.keepIn K (.ref f7) = true)
    (a8 : PySem.W.nsIn K mainGlobals "holds" = some (some (.ref f8)))
    (l8 : K.lookup f8 = some ⟨oc8, od8, .func (PySem.W.fnOf "holds" "holds" (defArgs s_holds) (defBody s_holds) (defScope s_holds) .none kV8 dc8 pm8 an8 cd8 ct8), sl8⟩)
    (c8 : PySem.W.codeIn K cd8 "holds" = true)
    (k8 : PySem.W.keepIn K (.ref f8) = true)
    (a9 : PySem.W.nsIn K mainGlobals "first_of_each" = some (some (.ref f9)))
    (l9 : K.lookup f9 = some ⟨oc9, od9, .func (PySem.W.fnOf "first_of_each" "first_of_each" (defArgs s_first_of_each) (defBody s_first_of_each) (defScope s_first_of_each) .none kV9 dc9 pm9 an9 cd9 ct9), sl9⟩)
    (c9 : PySem.W.codeIn K cd9 "first_of_each" = true)
    (k9 : PySem.W.keepIn K (.ref f9) = true)
    (a10 : PySem.W.nsIn K mainGlobals "rows_mark" = some (some (.ref f10)))
    (l10 : K.lookup f10 = some ⟨oc10, od10, .func (PySem.W.fnOf "rows_mark" "rows_mark" (defArgs s_rows_mark) (defBody s_rows_mark) (defScope s_rows_mark) .none kV10 dc10 pm10 an10 cd10 ct10), sl10⟩)
    (c10 : PySem.W.codeIn K cd10 "rows_mark" = true)
    (k10 : PySem.W.keepIn K (.ref f10) = true)
    (a11 : PySem.W.nsIn K mainGlobals "rows_pair" = some (some (.ref f11)))
    (l11 : K.lookup f11 = some ⟨oc11, od11, .func (PySem.W.fnOf "rows_pair" "rows_pair" (defArgs s_rows_pair) (defBody s_rows_pair) (defScope s_rows_pair) .none kV11 dc11 pm11 an11 cd11 ct11), sl11⟩)
    (c11 : PySem.W.codeIn K cd11 "rows_pair" = true)
    (k11 : PySem.W.keepIn K (.ref f11) = true)
    (a12 : PySem.W.nsIn K mainGlobals "_law_stream" = some (some (.ref f12)))
    (l12 : K.lookup f12 = some ⟨oc12, od12, .func (PySem.W.fnOf "_law_stream" "_law_stream" (defArgs s__law_stream) (defBody s__law_stream) (defScope s__law_stream) .none kV12 dc12 pm12 an12 cd12 ct12), sl12⟩)
    (c12 : PySem.W.codeIn K cd12 "_law_stream" = true)
    (k12 : PySem.W.keepIn K (.ref f12) = true)
    (a13 : PySem.W.nsIn K mainGlobals "_law_draw" = some (some (.ref f13)))
    (l13 : K.lookup f13 = some ⟨oc13, od13, .func (PySem.W.fnOf "_law_draw" "_law_draw" (defArgs s__law_draw) (defBody s__law_draw) (defScope s__law_draw) .none kV13 dc13 pm13 an13 cd13 ct13), sl13⟩)
    (c13 : PySem.W.codeIn K cd13 "_law_draw" = true)
    (k13 : PySem.W.keepIn K (.ref f13) = true)
    (a14 : PySem.W.nsIn K mainGlobals "_law_number" = some (some (.ref f14)))
    (l14 : K.lookup f14 = some ⟨oc14, od14, .func (PySem.W.fnOf "_law_number" "_law_number" (defArgs s__law_number) (defBody s__law_number) (defScope s__law_number) .none kV14 dc14 pm14 an14 cd14 ct14), sl14⟩)
    (c14 : PySem.W.codeIn K cd14 "_law_number" = true)
    (k14 : PySem.W.keepIn K (.ref f14) = true)
    (a15 : PySem.W.nsIn K mainGlobals "_law_pool" = some (some (.ref f15)))
    (l15 : K.lookup f15 = some ⟨oc15, od15, .func (PySem.W.fnOf "_law_pool" "_law_pool" (defArgs s__law_pool) (defBody s__law_pool) (defScope s__law_pool) .none kV15 dc15 pm15 an15 cd15 ct15), sl15⟩)
    (c15 : PySem.W.codeIn K cd15 "_law_pool" = true)
    (k15 : PySem.W.keepIn K (.ref f15) = true)
    (a16 : PySem.W.nsIn K mainGlobals "_law_row" = some (some (.ref f16)))
    (l16 : K.lookup f16 = some ⟨oc16, od16, .func (PySem.W.fnOf "_law_row" "_law_row" (defArgs s__law_row) (defBody s__law_row) (defScope s__law_row) .none kV16 dc16 pm16 an16 cd16 ct16), sl16⟩)
    (c16 : PySem.W.codeIn K cd16 "_law_row" = true)
    (k16 : PySem.W.keepIn K (.ref f16) = true)
    (a17 : PySem.W.nsIn K mainGlobals "_law_leaf" = some (some (.ref f17)))
    (l17 : K.lookup f17 = some ⟨oc17, od17, .func (PySem.W.fnOf "_law_leaf" "_law_leaf" (defArgs s__law_leaf) (defBody s__law_leaf) (defScope s__law_leaf) .none kV17 dc17 pm17 an17 cd17 ct17), sl17⟩)
    (c17 : PySem.W.codeIn K cd17 "_law_leaf" = true)
    (k17 : PySem.W.keepIn K (.ref f17) = true)
    (a18 : PySem.W.nsIn K mainGlobals "_law_recipe" = some (some (.ref f18)))
    (l18 : K.lookup f18 = some ⟨oc18, od18, .func (PySem.W.fnOf "_law_recipe" "_law_recipe" (defArgs s__law_recipe) (defBody s__law_recipe) (defScope s__law_recipe) .none kV18 dc18 pm18 an18 cd18 ct18), sl18⟩)
    (c18 : PySem.W.codeIn K cd18 "_law_recipe" = true)
    (k18 : PySem.W.keepIn K (.ref f18) = true)
    (a19 : PySem.W.nsIn K mainGlobals "_law_built" = some (some (.ref f19)))
    (l19 : K.lookup f19 = some ⟨oc19, od19, .func (PySem.W.fnOf "_law_built" "_law_built" (defArgs s__law_built) (defBody s__law_built) (defScope s__law_built) .none kV19 dc19 pm19 an19 cd19 ct19), sl19⟩)
    (c19 : PySem.W.codeIn K cd19 "_law_built" = true)
    (k19 : PySem.W.keepIn K (.ref f19) = true)
    (a20 : PySem.W.nsIn K mainGlobals "_law_compared" = some (some (.ref f20)))
    (l20 : K.lookup f20 = some ⟨oc20, od20, .func (PySem.W.fnOf "_law_compared" "_law_compared" (defArgs s__law_compared) (defBody s__law_compared) (defScope s__law_compared) .none kV20 dc20 pm20 an20 cd20 ct20), sl20⟩)
    (c20 : PySem.W.codeIn K cd20 "_law_compared" = true)
    (k20 : PySem.W.keepIn K (.ref f20) = true)
    (a21 : PySem.W.nsIn K mainGlobals "_law_joined" = some (some (.ref f21)))
    (l21 : K.lookup f21 = some ⟨oc21, od21, .func (PySem.W.fnOf "_law_joined" "_law_joined" (defArgs s__law_joined) (defBody s__law_joined) (defScope s__law_joined) .none kV21 dc21 pm21 an21 cd21 ct21), sl21⟩)
    (c21 : PySem.W.codeIn K cd21 "_law_joined" = true)
    (k21 : PySem.W.keepIn K (.ref f21) = true)
    (a22 : PySem.W.nsIn K mainGlobals "_law_judged" = some (some (.ref f22)))
    (l22 : K.lookup f22 = some ⟨oc22, od22, .func (PySem.W.fnOf "_law_judged" "_law_judged" (defArgs s__law_judged) (defBody s__law_judged) (defScope s__law_judged) .none kV22 dc22 pm22 an22 cd22 ct22), sl22⟩)
    (c22 : PySem.W.codeIn K cd22 "_law_judged" = true)
    (k22 : PySem.W.keepIn K (.ref f22) = true)
    (a23 : PySem.W.nsIn K mainGlobals "_law_alike" = some (some (.ref f23)))
    (l23 : K.lookup f23 = some ⟨oc23, od23, .func (PySem.W.fnOf "_law_alike" "_law_alike" (defArgs s__law_alike) (defBody s__law_alike) (defScope s__law_alike) .none kV23 dc23 pm23 an23 cd23 ct23), sl23⟩)
    (c23 : PySem.W.codeIn K cd23 "_law_alike" = true)
    (k23 : PySem.W.keepIn K (.ref f23) = true)
    (a24 : PySem.W.nsIn K mainGlobals "_law_rows_due" = some (some (.ref f24)))
    (l24 : K.lookup f24 = some ⟨oc24, od24, .func (PySem.W.fnOf "_law_rows_due" "_law_rows_due" (defArgs s__law_rows_due) (defBody s__law_rows_due) (defScope s__law_rows_due) .none kV24 dc24 pm24 an24 cd24 ct24), sl24⟩)
    (c24 : PySem.W.codeIn K cd24 "_law_rows_due" = true)
    (k24 : PySem.W.keepIn K (.ref f24) = true)
    (a25 : PySem.W.nsIn K mainGlobals "law" = some (some (.ref f25)))
    (l25 : K.lookup f25 = some ⟨oc25, od25, .func (PySem.W.fnOf "law" "law" (defArgs s_law) (defBody s_law) (defScope s_law) .none kV25 dc25 pm25 an25 cd25 ct25), sl25⟩)
    (c25 : PySem.W.codeIn K cd25 "law" = true)
    (k25 : PySem.W.keepIn K (.ref f25) = true)
    (g_IN : PySem.W.nsIn K mainGlobals "IN" = some (some (.int (2) t_IN)))
    (g_MAYBE : PySem.W.nsIn K mainGlobals "MAYBE" = some (some (.int (1) t_MAYBE)))
    (g_OUT : PySem.W.nsIn K mainGlobals "OUT" = some (some (.int (0) t_OUT)))
    (g_SIGNS : PySem.W.nsIn K mainGlobals "SIGNS" = some (some (.ref c_SIGNS)))
    (l_SIGNS : K.lookup c_SIGNS = some ⟨.type "tuple", dd_SIGNS, .seq #[.str "<" t_SIGNS_0, .str "<=" t_SIGNS_1, .str "=" t_SIGNS_2, .str "!=" t_SIGNS_3, .str ">=" t_SIGNS_4, .str ">" t_SIGNS_5] nn_SIGNS, ss_SIGNS⟩)
    (z_abs : PySem.W.nsIn K mainGlobals "abs" = some none)
    (z_bool : PySem.W.nsIn K mainGlobals "bool" = some none)
    (z_int : PySem.W.nsIn K mainGlobals "int" = some none)
    (z_isinstance : PySem.W.nsIn K mainGlobals "isinstance" = some none)
    (z_len : PySem.W.nsIn K mainGlobals "len" = some none)
    (z_list : PySem.W.nsIn K mainGlobals "list" = some none)
    (z_range : PySem.W.nsIn K mainGlobals "range" = some none)
    (z_reversed : PySem.W.nsIn K mainGlobals "reversed" = some none)
    (z_str : PySem.W.nsIn K mainGlobals "str" = some none)
    (z_tuple : PySem.W.nsIn K mainGlobals "tuple" = some none) :
    ∃ fd : FuncData, (∀ (s : Shared) (v : Value), BindsTo s fd ⟨[v], []⟩ [("_law_script", v)]) ∧ ∀ base : Heap, K.In base → base.Ns mainGlobals mg → FnOk l.prog w K mg base CX0 22 fa fd ["_law_script"] (spLaw K) := by
  have e := hfa.symm.trans (PySem.W.mg_of X G a25)
  cases e
  have F0 := fun_mk (st := s_mark_of) l0 c0 k0
  have b0 := F0.binds (ps := ["truths"]) fun _ _ _ _ _ _ us hl => match us, hl with | [_], _ => rfl
  have F1 := fun_mk (st := s_parts_of) l1 c1 k1
  have b1 := F1.binds (ps := ["predicate"]) fun _ _ _ _ _ _ us hl => match us, hl with | [_], _ => rfl
  have F2 := fun_mk (st := s_compares) l2 c2 k2
  have b2 := F2.binds (ps := ["value", "sign", "number"]) fun _ _ _ _ _ _ us hl => match us, hl with | [_, _, _], _ => rfl
  have F3 := fun_mk (st := s_comparison_truth) l3 c3 k3
  have b3 := F3.binds (ps := ["value", "sign", "number"]) fun _ _ _ _ _ _ us hl => match us, hl with | [_, _, _], _ => rfl
  have F4 := fun_mk (st := s_both_truth) l4 c4 k4
  have b4 := F4.binds (ps := ["truths"]) fun _ _ _ _ _ _ us hl => match us, hl with | [_], _ => rfl
  have F5 := fun_mk (st := s_either_truth) l5 c5 k5
  have b5 := F5.binds (ps := ["truths"]) fun _ _ _ _ _ _ us hl => match us, hl with | [_], _ => rfl
  have F6 := fun_mk (st := s_negation_truth) l6 c6 k6
  have b6 := F6.binds (ps := ["part"]) fun _ _ _ _ _ _ us hl => match us, hl with | [_], _ => rfl
  have F7 := fun_mk (st := s_truth) l7 c7 k7
  have b7 := F7.binds (ps := ["predicate", "row"]) fun _ _ _ _ _ _ us hl => match us, hl with | [_, _], _ => rfl
  have F8 := fun_mk (st := s_holds) l8 c8 k8
  have b8 := F8.binds (ps := ["predicate", "row"]) fun _ _ _ _ _ _ us hl => match us, hl with | [_, _], _ => rfl
  have F9 := fun_mk (st := s_first_of_each) l9 c9 k9
  have b9 := F9.binds (ps := ["judged"]) fun _ _ _ _ _ _ us hl => match us, hl with | [_], _ => rfl
  have F10 := fun_mk (st := s_rows_mark) l10 c10 k10
  have b10 := F10.binds (ps := ["predicate", "rows"]) fun _ _ _ _ _ _ us hl => match us, hl with | [_, _], _ => rfl
  have F11 := fun_mk (st := s_rows_pair) l11 c11 k11
  have b11 := F11.binds (ps := ["predicate", "rows"]) fun _ _ _ _ _ _ us hl => match us, hl with | [_, _], _ => rfl
  have F12 := fun_mk (st := s__law_stream) l12 c12 k12
  have b12 := F12.binds (ps := ["_law_script"]) fun _ _ _ _ _ _ us hl => match us, hl with | [_], _ => rfl
  have F13 := fun_mk (st := s__law_draw) l13 c13 k13
  have b13 := F13.binds (ps := ["_law_stream_here", "_law_many"]) fun _ _ _ _ _ _ us hl => match us, hl with | [_, _], _ => rfl
  have F14 := fun_mk (st := s__law_number) l14 c14 k14
  have b14 := F14.binds (ps := ["_law_stream_here", "_law_most"]) fun _ _ _ _ _ _ us hl => match us, hl with | [_, _], _ => rfl
  have F15 := fun_mk (st := s__law_pool) l15 c15 k15
  have b15 := F15.binds (ps := ["_law_stream_here", "_law_wide"]) fun _ _ _ _ _ _ us hl => match us, hl with | [_, _], _ => rfl
  have F16 := fun_mk (st := s__law_row) l16 c16 k16
  have b16 := F16.binds (ps := ["_law_stream_here", "_law_pool_here"]) fun _ _ _ _ _ _ us hl => match us, hl with | [_, _], _ => rfl
  have F17 := fun_mk (st := s__law_leaf) l17 c17 k17
  have b17 := F17.binds (ps := ["_law_stream_here", "_law_pool_here"]) fun _ _ _ _ _ _ us hl => match us, hl with | [_, _], _ => rfl
  have F18 := fun_mk (st := s__law_recipe) l18 c18 k18
  have b18 := F18.binds (ps := ["_law_stream_here", "_law_pool_here", "_law_most"]) fun _ _ _ _ _ _ us hl => match us, hl with | [_, _, _], _ => rfl
  have F19 := fun_mk (st := s__law_built) l19 c19 k19
  have b19 := F19.binds (ps := ["_law_steps"]) fun _ _ _ _ _ _ us hl => match us, hl with | [_], _ => rfl
  have F20 := fun_mk (st := s__law_compared) l20 c20 k20
  have b20 := F20.binds (ps := ["_law_sign", "_law_value", "_law_number_here"]) fun _ _ _ _ _ _ us hl => match us, hl with | [_, _, _], _ => rfl
  have F21 := fun_mk (st := s__law_joined) l21 c21 k21
  have b21 := F21.binds (ps := ["_law_word", "_law_parts"]) fun _ _ _ _ _ _ us hl => match us, hl with | [_, _], _ => rfl
  have F22 := fun_mk (st := s__law_judged) l22 c22 k22
  have b22 := F22.binds (ps := ["_law_steps", "_law_row_here"]) fun _ _ _ _ _ _ us hl => match us, hl with | [_, _], _ => rfl
  have F23 := fun_mk (st := s__law_alike) l23 c23 k23
  have b23 := F23.binds (ps := ["_law_told", "_law_due"]) fun _ _ _ _ _ _ us hl => match us, hl with | [_, _], _ => rfl
  have F24 := fun_mk (st := s__law_rows_due) l24 c24 k24
  have b24 := F24.binds (ps := ["_law_steps", "_law_rows"]) fun _ _ _ _ _ _ us hl => match us, hl with | [_, _], _ => rfl
  have F25 := fun_mk (st := s_law) l25 c25 k25
  have T : Txt K mg := { a_mark_of := _, d_mark_of := _, F_mark_of := F0, b_mark_of := b0, g_mark_of := PySem.W.mg_of X G a0, a_parts_of := _, d_parts_of := _, F_parts_of := F1, b_parts_of := b1, g_parts_of := PySem.W.mg_of X G a1, a_compares := _, d_compares := _, F_compares := F2, b_compares := b2, g_compares := PySem.W.mg_of X G a2, a_comparison_truth := _, d_comparison_truth := _, F_comparison_truth := F3, b_comparison_truth := b3, g_comparison_truth := PySem.W.mg_of X G a3, a_both_truth := _, d_both_truth := _, F_both_truth := F4, b_both_truth := b4, g_both_truth := PySem.W.mg_of X G a4, a_either_truth := _, d_either_truth := _, F_either_truth := F5, b_either_truth := b5, g_either_truth := PySem.W.mg_of X G a5, a_negation_truth := _, d_negation_truth := _, F_negation_truth := F6, b_negation_truth := b6, g_negation_truth := PySem.W.mg_of X G a6, a_truth := _, d_truth := _, F_truth := F7, b_truth := b7, g_truth := PySem.W.mg_of X G a7, a_holds := _, d_holds := _, F_holds := F8, b_holds := b8, g_holds := PySem.W.mg_of X G a8, a_first_of_each := _, d_first_of_each := _, F_first_of_each := F9, b_first_of_each := b9, g_first_of_each := PySem.W.mg_of X G a9, a_rows_mark := _, d_rows_mark := _, F_rows_mark := F10, b_rows_mark := b10, g_rows_mark := PySem.W.mg_of X G a10, a_rows_pair := _, d_rows_pair := _, F_rows_pair := F11, b_rows_pair := b11, g_rows_pair := PySem.W.mg_of X G a11, a_stream := _, d_stream := _, F_stream := F12, b_stream := b12, g_stream := PySem.W.mg_of X G a12, a_draw := _, d_draw := _, F_draw := F13, b_draw := b13, g_draw := PySem.W.mg_of X G a13, a_number := _, d_number := _, F_number := F14, b_number := b14, g_number := PySem.W.mg_of X G a14, a_pool := _, d_pool := _, F_pool := F15, b_pool := b15, g_pool := PySem.W.mg_of X G a15, a_row := _, d_row := _, F_row := F16, b_row := b16, g_row := PySem.W.mg_of X G a16, a_leaf := _, d_leaf := _, F_leaf := F17, b_leaf := b17, g_leaf := PySem.W.mg_of X G a17, a_recipe := _, d_recipe := _, F_recipe := F18, b_recipe := b18, g_recipe := PySem.W.mg_of X G a18, a_built := _, d_built := _, F_built := F19, b_built := b19, g_built := PySem.W.mg_of X G a19, a_compared := _, d_compared := _, F_compared := F20, b_compared := b20, g_compared := PySem.W.mg_of X G a20, a_joined := _, d_joined := _, F_joined := F21, b_joined := b21, g_joined := PySem.W.mg_of X G a21, a_judged := _, d_judged := _, F_judged := F22, b_judged := b22, g_judged := PySem.W.mg_of X G a22, a_alike := _, d_alike := _, F_alike := F23, b_alike := b23, g_alike := PySem.W.mg_of X G a23, a_rows_due := _, d_rows_due := _, F_rows_due := F24, b_rows_due := b24, g_rows_due := PySem.W.mg_of X G a24, t_IN := _, g_IN := PySem.W.mg_of X G g_IN, t_MAYBE := _, g_MAYBE := PySem.W.mg_of X G g_MAYBE, t_OUT := _, g_OUT := PySem.W.mg_of X G g_OUT, c_SIGNS := _, g_SIGNS := PySem.W.mg_of X G g_SIGNS, l_SIGNS := fun H => .inr ⟨_, _, _, l_SIGNS, rfl, rfl, by rw [sizeLine_eq]; show 6 ≤ 16777216; decide, (.cons ⟨_, rfl⟩ (.cons ⟨_, rfl⟩ (.cons ⟨_, rfl⟩ (.cons ⟨_, rfl⟩ (.cons ⟨_, rfl⟩ (.cons ⟨_, rfl⟩ .nil))))))⟩, z_abs := PySem.W.mg_none_of X G z_abs, z_bool := PySem.W.mg_none_of X G z_bool, z_int := PySem.W.mg_none_of X G z_int, z_isinstance := PySem.W.mg_none_of X G z_isinstance, z_len := PySem.W.mg_none_of X G z_len, z_list := PySem.W.mg_none_of X G z_list, z_range := PySem.W.mg_none_of X G z_range, z_reversed := PySem.W.mg_none_of X G z_reversed, z_str := PySem.W.mg_none_of X G z_str, z_tuple := PySem.W.mg_none_of X G z_tuple }
  exact ⟨PySem.W.fnOf "law" "law" (defArgs s_law) (defBody s_law) (defScope s_law) .none kV25 dc25 pm25 an25 cd25 ct25, fun s v => .of_eq rfl, fun base _ _ => ok_law F25 T⟩
end Y
open PySem PySem.W PyProof.Rows
set_option maxHeartbeats 0 in
theorem PySem.Challenge.cw_wholepages_k32_rows_mark_holds : PySem.Challenge.rw_wholepages_k32_rows_mark.Holds := by
  w_on; o_law; k_head; (case hw => w_witness2)
  k_fill
  refine L2.walk_of (l := PySem.Challenge.rw_wholepages_k32_rows_mark) (n := 63) (k := 22) (x := "_law_script") (CX := fun _ => L2.CX0) (sp := fun w => Y.spLaw _) rfl (by decide) rfl ⟨rfl, by decide, by decide⟩ (fun w h Y => PySem.W.kIn_of Y) ?F (fun _ _ a ns hl _ hS => ⟨a, ns, rfl, hS, hl, fun _ => rfl⟩) (fun _ _ _ _ _ h => h)
  case F =>
    intro w mg fa h KX G hmg
    refine' Y.all_mk KX G hmg ?a0 ?l0 ?c0 ?k0 ?a1 ?l1 ?c1 ?k1 ?a2 ?l2 ?c2 ?k2 ?a3 ?l3 ?c3 ?k3 ?a4 ?l4 ?c4 ?k4 ?a5 ?l5 ?c5 ?k5 ?a6 ?l6 ?c6 ?k6 ?a7 ?l7 ?c7 ?k7 ?a8 ?l8 ?c8 ?k8 ?a9 ?l9 ?c9 ?k9 ?a10 ?l10 ?c10 ?k10 ?a11 ?l11 ?c11 ?k11 ?a12 ?l12 ?c12 ?k12 ?a13 ?l13 ?c13 ?k13 ?a14 ?l14 ?c14 ?k14 ?a15 ?l15 ?c15 ?k15 ?a16 ?l16 ?c16 ?k16 ?a17 ?l17 ?c17 ?k17 ?a18 ?l18 ?c18 ?k18 ?a19 ?l19 ?c19 ?k19 ?a20 ?l20 ?c20 ?k20 ?a21 ?l21 ?c21 ?k21 ?a22 ?l22 ?c22 ?k22 ?a23 ?l23 ?c23 ?k23 ?a24 ?l24 ?c24 ?k24 ?a25 ?l25 ?c25 ?k25 ?g_IN ?g_MAYBE ?g_OUT ?g_SIGNS ?l_SIGNS ?z_abs ?z_bool ?z_int ?z_isinstance ?z_len ?z_list ?z_range ?z_reversed ?z_str ?z_tuple
    (case a0 => k_is); (case l0 => k_is); (case c0 => k_is); (case k0 => k_is); (case a1 => k_is); (case l1 => k_is); (case c1 => k_is); (case k1 => k_is); (case a2 => k_is); (case l2 => k_is); (case c2 => k_is); (case k2 => k_is); (case a3 => k_is); (case l3 => k_is); (case c3 => k_is); (case k3 => k_is); (case a4 => k_is); (case l4 => k_is); (case c4 => k_is); (case k4 => k_is); (case a5 => k_is); (case l5 => k_is); (case c5 => k_is); (case k5 => k_is); (case a6 => k_is); (case l6 => k_is); (case c6 => k_is); (case k6 => k_is); (case a7 => k_is); (case l7 => k_is); (case c7 => k_is); (case k7 => k_is); (case a8 => k_is); (case l8 => k_is); (case c8 => k_is); (case k8 => k_is); (case a9 => k_is); (case l9 => k_is); (case c9 => k_is); (case k9 => k_is); (case a10 => k_is); (case l10 => k_is); (case c10 => k_is); (case k10 => k_is); (case a11 => k_is); (case l11 => k_is); (case c11 => k_is); (case k11 => k_is); (case a12 => k_is); (case l12 => k_is); (case c12 => k_is); (case k12 => k_is); (case a13 => k_is); (case l13 => k_is); (case c13 => k_is); (case k13 => k_is); (case a14 => k_is); (case l14 => k_is); (case c14 => k_is); (case k14 => k_is); (case a15 => k_is); (case l15 => k_is); (case c15 => k_is); (case k15 => k_is); (case a16 => k_is); (case l16 => k_is); (case c16 => k_is); (case k16 => k_is); (case a17 => k_is); (case l17 => k_is); (case c17 => k_is); (case k17 => k_is); (case a18 => k_is); (case l18 => k_is); (case c18 => k_is); (case k18 => k_is); (case a19 => k_is); (case l19 => k_is); (case c19 => k_is); (case k19 => k_is); (case a20 => k_is); (case l20 => k_is); (case c20 => k_is); (case k20 => k_is); (case a21 => k_is); (case l21 => k_is); (case c21 => k_is); (case k21 => k_is); (case a22 => k_is); (case l22 => k_is); (case c22 => k_is); (case k22 => k_is); (case a23 => k_is); (case l23 => k_is); (case c23 => k_is); (case k23 => k_is); (case a24 => k_is); (case l24 => k_is); (case c24 => k_is); (case k24 => k_is); (case a25 => k_is); (case l25 => k_is); (case c25 => k_is); (case k25 => k_is); (case g_IN => k_is); (case g_MAYBE => k_is); (case g_OUT => k_is); (case g_SIGNS => k_is); (case l_SIGNS => k_is); (case z_abs => k_is); (case z_bool => k_is); (case z_int => k_is); (case z_isinstance => k_is); (case z_len => k_is); (case z_list => k_is); (case z_range => k_is); (case z_reversed => k_is); (case z_str => k_is); (case z_tuple => k_is)

