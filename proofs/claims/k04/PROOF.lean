import PyProof.Rows.All
import Wide.All
import OpenK.AllK
import Wide.FinOn
import HandS.ForMost
import HandS.Wide
import HandS.IsInst
import HandS.EndBits
import HandS.Style
import HandS.SortInts
import HandS.Evl
import HandS.TupMul
import HandS.WordsExc
import HandS.ExcOwn
import HandS.Exc
import HandS.ExcInit
import HandS.ExcField
import KE.KExcIs
import HandS.TryMany
import HandS.Conv
import HandS.Zip
import HandS.CallLocal
import HandS.Defaults
import HandS.Strs
import HandS.SetKeys
import HandS.SetBool
import HandS.Slots
import HandS.SlotsOwn
import HandS.Property
import HandS.ClsMeth
import HandS.MakeKwOnly
import HandS.FStr
import HandS.CallSlots
import HandS.ExcIs
import HandS.SetFor
import HandS.Text
import HandS.Rev
import HandS.Star
import HandS.TupAny
import HandS.DictTup
import HandS.TupLen
import PyProof.DictMoreH
import HandS.ListItems
import HandS.Deep
import HandS.Zip
import HandS.AnyAll
import HandS.IterNext
import HandS.IterVal
import PySem.Challenge.RW_wholepages_k04_first_empty_address
set_option Elab.async false
set_option linter.all false
set_option maxRecDepth 100000
set_option maxHeartbeats 4000000

/-! ## Common: steps of a reading, heaps, the law's own helpers -/
namespace Y
open PySem PySem.Spec PyProof.Rows L2
/-! ### steps -/
section
variable {K : PySem.W.Frag} {σ : L2.St} {H : Hp} {D : Ends} {ta tb te tc : TE} {t u : TS} {c d : TT} {Q : VK} {R : Bool → Hp → Prop}
theorem c_seq (h : t { D with nx := u D } σ H) : tSeq t u D σ H := h
theorem st_of {t : TS} {σ0 : L2.St} (e : σ0 = σ) (h : t D σ H) : t D σ0 H := by
  rw [e]
  exact h
theorem c_next (h : D.nx σ H) : tNext D σ H := h
theorem c_asg {g : TG} (h : te σ H fun x H1 => g x σ H1 D.nx) : tAsg te g D σ H := h
theorem c_gname {i : Nat} {v : V} {Q : L2.St → Hp → Prop} (h : Q (σ.set i (some v)) H) : gName i v σ H Q := h
theorem c_gsub {to ti : TE} {s : TSet} {v : V} {Q : L2.St → Hp → Prop} (h : to σ H fun o H1 => ti σ H1 fun i H2 => s o i v H2 fun H3 => Q σ H3) : gSub to ti s v σ H Q := h
theorem c_drop (h : te σ H fun _ H1 => D.nx σ H1) : tDrop te D σ H := h
theorem c_ret (h : te σ H D.rt) : tRet te D σ H := h
theorem c_retN (h : D.rt .non H) : tRetN D σ H := h
theorem c_ifs (h : c σ H fun b H1 => if b = true then t D σ H1 else u D σ H1) : tIfS c t u D σ H := h
theorem c_var {i : Nat} {v : V} (e : σ[i]? = some (some v)) (h : Q v H) : tVar i σ H Q := ⟨v, e, h⟩
theorem c_c {v : V} (h : Q v H) : tC v σ H Q := h
theorem c_op {r : R2} (h : ta σ H fun x H1 => tb σ H1 fun y H2 => r x y H2 Q) : tOp r ta tb σ H Q := h
theorem c_un {r : V → Hp → VK → Prop} (h : ta σ H fun x H1 => r x H1 Q) : tUn r ta σ H Q := h
theorem c_test (h : te σ H fun x H1 => ∃ k, x = .bl k ∧ R k H1) : tTest te σ H R := h
theorem c_B (h : te σ H fun x H1 => ∃ k, x = .bl k ∧ R k H1) : tB te σ H R := h
theorem c_bl {k : Bool} (h : R k H) : ∃ k', V.bl k = .bl k' ∧ R k' H := ⟨k, rfl, h⟩
theorem c_and (h : c σ H fun b H1 => if b = true then d σ H1 R else R false H1) : tAnd c d σ H R := h
theorem c_or (h : c σ H fun b H1 => if b = true then R true H1 else d σ H1 R) : tOr c d σ H R := h
theorem c_not (h : c σ H fun b H1 => R (!b) H1) : tNot c σ H R := h
theorem c_andV (h : ta σ H fun x H1 => ∃ b, x = .bl b ∧ if b = true then tb σ H1 Q else Q (.bl false) H1) : tAndV ta tb σ H Q := h
theorem c_orV (h : ta σ H fun x H1 => ∃ b, x = .bl b ∧ if b = true then Q (.bl true) H1 else tb σ H1 Q) : tOrV ta tb σ H Q := h
theorem c_notV (h : ta σ H fun x H1 => ∃ b, x = .bl b ∧ Q (.bl (!b)) H1) : tNotV ta σ H Q := h
theorem c_if (h : c σ H fun b H1 => if b = true then ta σ H1 Q else tb σ H1 Q) : tIf c ta tb σ H Q := h
theorem c_CB {r : List V → Hp → VK → Prop} {t : TA} (h : t σ H fun vs H1 => r vs H1 Q) : tCB r t σ H Q := h
theorem c_nil {Q : List V → Hp → Prop} (h : Q [] H) : tNil σ H Q := h
theorem c_cons {tr : TA} {Q : List V → Hp → Prop} (h : ta σ H fun x H1 => tr σ H1 fun xs H2 => Q (x :: xs) H2) : tCons ta tr σ H Q := h
theorem c_call {sp : Sp} {dvs : List V} {E : XK} {t : TA} (h : t σ H fun vs H1 => sp (vs ++ dvs) H1 Q E) : tCall sp dvs E t σ H Q := h
theorem c_lst {t : TA} (h : t σ H fun xs H1 => xs.length ≤ sizeLine ∧ ∀ p, H1 p = none → Q (.ref p) (upd H1 p (.lst xs))) : tLst t σ H Q := h
theorem c_tup {t : TA} (h : t σ H fun xs H1 => xs.length ≤ sizeLine ∧ ∀ p, H1 p = none → Q (.ref p) (upd H1 p (.tup xs))) : tTup t σ H Q := h
theorem c_BM {T : String} {r : V → List V → Hp → VK → Prop} {to : TE} {t : TA} (h : to σ H fun x H1 => tyV K T x H1 ∧ t σ H1 fun xs H2 => r x xs H2 Q) : tBM K T r to t σ H Q := h
theorem c_BM0 {T : String} {r : V → List V → Hp → VK → Prop} {to : TE} (h : to σ H fun x H1 => tyV K T x H1 ∧ r x [] H1 Q) : tBM0 K T r to σ H Q := h
theorem c_chain {r r' : R2} (h : ta σ H fun x H1 => tb σ H1 fun y H2 => r x y H2 fun z H3 => ∃ k, z = .bl k ∧ if k = true then tc σ H3 fun w H4 => r' y w H4 Q else Q (.bl false) H3) : tChain r r' ta tb tc σ H Q := h
theorem c_for {wi : TI} {g : TG} {D : Ends} {xs : List V} {a : Addr} (hx : SqL K H a xs)
    (h : ∃ W : Nat → Nat → L2.St → Hp → Prop, (∃ m, W 0 m σ H) ∧ ∀ i m σ H, W i m σ H →
      ((Itl K a).stop i H ∧ D.nx σ H) ∨ ((Itl K a).go i H ∧ ∃ N : L2.St → Hp → Prop, (∀ σ' H', N σ' H' → ∃ m', m' < m ∧ W (i + 1) m' σ' H') ∧ ∀ x H', (Itl K a).yld i H x H' → g x σ H' fun σ2 H2 => t { D with nx := N, ct := N, bk := D.nx } σ2 H2)) :
    ∃ a', V.ref a = .ref a' ∧ (∃ xs, SqL K H a' xs) ∧ ∃ W : Nat → Nat → L2.St → Hp → Prop, (∃ m, W 0 m σ H) ∧ ∀ i m σ H, W i m σ H →
      ((Itl K a').stop i H ∧ D.nx σ H) ∨ ((Itl K a').go i H ∧ ∃ N : L2.St → Hp → Prop, (∀ σ' H', N σ' H' → ∃ m', m' < m ∧ W (i + 1) m' σ' H') ∧ ∀ x H', (Itl K a').yld i H x H' → g x σ H' fun σ2 H2 => t { D with nx := N, ct := N, bk := D.nx } σ2 H2) := ⟨a, rfl, ⟨xs, hx⟩, h⟩
/-- for x in xs, by what holds ahead of each turn -/
theorem c_forL {tl : TE} {g : TG} (h : tl σ H fun x H1 => ∃ a xs, x = .ref a ∧ SqL K H1 a xs ∧ ∃ Pv : Nat → L2.St → Hp → Prop, Pv 0 σ H1 ∧ (∀ i σ H, i ≤ xs.length → Pv i σ H → SqL K H a xs) ∧
      (∀ i x σ H, xs[i]? = some x → Pv i σ H → g x σ H fun σ2 H2 => t { D with nx := Pv (i + 1), ct := Pv (i + 1), bk := D.nx } σ2 H2) ∧ (∀ σ H, Pv xs.length σ H → D.nx σ H))
    (mono : ∀ Q Q' : VK, (∀ v H, Q v H → Q' v H) → tl σ H Q → tl σ H Q') : tFor (iList K tl) g t D σ H := by
  refine mono _ _ (fun v H1 h => ?_) h
  obtain ⟨a, xs, rfl, hx, Pv, h0, hl, hs, hd⟩ := h
  exact ⟨a, rfl, ⟨xs, hx⟩, for_list (xs := xs) Pv h0 hl hs hd⟩
theorem c_rng1 {ta : TA} {g : TG} (h : ta σ H fun vs H1 => ∃ j : Int, vs = [.int j] ∧ -(2 ^ 62) ≤ j ∧ j < 2 ^ 62 ∧ ∃ W : Nat → Nat → L2.St → Hp → Prop, (∃ m, W 0 m σ H1) ∧ ∀ i m σ H, W i m σ H →
      ((Itr 0 j.toNat).stop i H ∧ D.nx σ H) ∨ ((Itr 0 j.toNat).go i H ∧ ∃ N : L2.St → Hp → Prop, (∀ σ' H', N σ' H' → ∃ m', m' < m ∧ W (i + 1) m' σ' H') ∧ ∀ x H', (Itr 0 j.toNat).yld i H x H' → g x σ H' fun σ2 H2 => t { D with nx := N, ct := N, bk := D.nx } σ2 H2)) :
    tFor (iRng1 ta) g t D σ H := h
theorem c_forList {tl : TE} {g : TG} (h : tl σ H fun x H1 => ∃ a, x = .ref a ∧ (∃ xs, SqL K H1 a xs) ∧ ∃ W : Nat → Nat → L2.St → Hp → Prop, (∃ m, W 0 m σ H1) ∧ ∀ i m σ H, W i m σ H →
      ((Itl K a).stop i H ∧ D.nx σ H) ∨ ((Itl K a).go i H ∧ ∃ N : L2.St → Hp → Prop, (∀ σ' H', N σ' H' → ∃ m', m' < m ∧ W (i + 1) m' σ' H') ∧ ∀ x H', (Itl K a).yld i H x H' → g x σ H' fun σ2 H2 => t { D with nx := N, ct := N, bk := D.nx } σ2 H2)) :
    tFor (iList K tl) g t D σ H := h
theorem c_forTup {tl : TE} {g : TG} (h : tl σ H fun x H1 => ∃ a, x = .ref a ∧ (∃ xs, SqT K H1 a xs) ∧ ∃ W : Nat → Nat → L2.St → Hp → Prop, (∃ m, W 0 m σ H1) ∧ ∀ i m σ H, W i m σ H →
      ((Itt K a).stop i H ∧ D.nx σ H) ∨ ((Itt K a).go i H ∧ ∃ N : L2.St → Hp → Prop, (∀ σ' H', N σ' H' → ∃ m', m' < m ∧ W (i + 1) m' σ' H') ∧ ∀ x H', (Itt K a).yld i H x H' → g x σ H' fun σ2 H2 => t { D with nx := N, ct := N, bk := D.nx } σ2 H2)) :
    tFor (iTup K tl) g t D σ H := h
/-! operators by values -/
theorem r_I0 {g : Int → Int → V} {i j : Int} (h : Q (g i j) H) : rI0 g (.int i) (.int j) H Q := ⟨i, j, rfl, rfl, h⟩
theorem r_I {C : Int → Int → Prop} {g : Int → Int → V} {i j : Int} (hc : C i j) (h : Q (g i j) H) : rI C g (.int i) (.int j) H Q := ⟨i, j, rfl, rfl, hc, h⟩
theorem r_U {g : Int → V} {i : Int} (h : Q (g i) H) : rU g (.int i) H Q := ⟨i, rfl, h⟩
theorem dec_int {i j : Int} : decide (V.int i = V.int j) = decide (i = j) := by
  by_cases h : i = j
  · rw [decide_eq_true h, h, decide_eq_true rfl]
  · rw [decide_eq_false h, decide_eq_false fun z => h (V.int.inj z)]
theorem dec_bl {i j : Bool} : decide (V.bl i = V.bl j) = decide (i = j) := by cases i <;> cases j <;> rfl
theorem dec_str {i j : Str} : decide (V.str i = V.str j) = decide (i = j) := by
  by_cases h : i = j
  · rw [decide_eq_true h, h, decide_eq_true rfl]
  · rw [decide_eq_false h, decide_eq_false fun z => h (V.str.inj z)]
theorem r_eqI {i j : Int} (h : Q (.bl (decide (i = j))) H) : rEq (.int i) (.int j) H Q := ⟨rfl, by rw [dec_int]; exact h⟩
theorem r_neI {i j : Int} (h : Q (.bl (!decide (i = j))) H) : rNe (.int i) (.int j) H Q := ⟨rfl, by rw [dec_int]; exact h⟩
theorem r_eqB {i j : Bool} (h : Q (.bl (decide (i = j))) H) : rEq (.bl i) (.bl j) H Q := ⟨rfl, by rw [dec_bl]; exact h⟩
theorem r_neB {i j : Bool} (h : Q (.bl (!decide (i = j))) H) : rNe (.bl i) (.bl j) H Q := ⟨rfl, by rw [dec_bl]; exact h⟩
theorem r_eqS {i j : Str} (h : Q (.bl (decide (i = j))) H) : rEq (.str i) (.str j) H Q := ⟨rfl, by rw [dec_str]; exact h⟩
theorem r_neS {i j : Str} (h : Q (.bl (!decide (i = j))) H) : rNe (.str i) (.str j) H Q := ⟨rfl, by rw [dec_str]; exact h⟩
theorem r_isN {x : V} (h : Q (.bl (decide (x = .non))) H) : (fun (x y : V) (H : Hp) (Q : VK) => y = .non ∧ Q (.bl (decide (x = .non))) H) x .non H Q := ⟨rfl, h⟩
theorem r_ixL {p : Addr} {xs : List V} {i : Int} {v : V} (hx : SqL K H p xs) (ha : atI xs i = some v) (h : Q v H) : rIxL K (.ref p) (.int i) H Q := ⟨p, xs, i, v, rfl, rfl, hx, ha, h⟩
theorem r_ixT {p : Addr} {xs : List V} {i : Int} {v : V} (hx : SqT K H p xs) (ha : atI xs i = some v) (h : Q v H) : rIxT K (.ref p) (.int i) H Q := ⟨p, xs, i, v, rfl, rfl, hx, ha, h⟩
theorem r_inL {n : Bool} {p : Addr} {x : V} {xs : List V} (hx : SqL K H p xs) (h1 : flatV x = true) (h2 : xs.all flatV = true) (h : Q (.bl (if n then !inV x xs else inV x xs)) H) : rIn K n x (.ref p) H Q := ⟨p, xs, rfl, .inl hx, h1, h2, h⟩
theorem r_inT {n : Bool} {p : Addr} {x : V} {xs : List V} (hx : SqT K H p xs) (h1 : flatV x = true) (h2 : xs.all flatV = true) (h : Q (.bl (if n then !inV x xs else inV x xs)) H) : rIn K n x (.ref p) H Q := ⟨p, xs, rfl, .inr hx, h1, h2, h⟩
theorem r_lenL {p : Addr} {xs : List V} (hx : SqL K H p xs) (h : Q (.int xs.length) H) : (fun (xs : List V) (H : Hp) (Q : VK) => ∃ p ys, xs = [.ref p] ∧ (SqL K H p ys ∨ SqT K H p ys) ∧ Q (.int ys.length) H) [.ref p] H Q := ⟨p, xs, rfl, .inl hx, h⟩
theorem r_lenT {p : Addr} {xs : List V} (hx : SqT K H p xs) (h : Q (.int xs.length) H) : (fun (xs : List V) (H : Hp) (Q : VK) => ∃ p ys, xs = [.ref p] ∧ (SqL K H p ys ∨ SqT K H p ys) ∧ Q (.int ys.length) H) [.ref p] H Q := ⟨p, xs, rfl, .inr hx, h⟩
theorem r_app {p : Addr} {xs : List V} {y : V} (hx : H p = some (.lst xs)) (hl : xs.length < sizeLine) (h : Q .non (upd H p (.lst (xs ++ [y])))) : rAppend (.ref p) [y] H Q := ⟨p, xs, y, rfl, rfl, hx, hl, h⟩
theorem r_pop {p : Addr} {xs : List V} {y : V} (hx : H p = some (.lst (xs ++ [y]))) (h : Q y (upd H p (.lst xs))) : rPop (.ref p) [] H Q :=
  ⟨p, xs ++ [y], y, rfl, rfl, hx, by simp, by rw [List.dropLast_concat]; exact h⟩
theorem r_setL {p : Addr} {xs : List V} {i : Int} {j : Nat} {v : V} {Q : Hp → Prop} (hx : H p = some (.lst xs)) (hj : ixN xs.length i = some j) (h : Q (upd H p (.lst (xs.set j v)))) : rSetL (.ref p) (.int i) v H Q := ⟨p, xs, i, j, rfl, rfl, hx, hj, h⟩
theorem r_pow18 {H : Hp} {Q : VK} (h : Q (.int 1000000000000000000) H) : rI CPow (fun i j => .int (i ^ j.toNat)) (.int 10) (.int 18) H Q := r_I ⟨by decide, by decide, by decide⟩ h
theorem r_pow17 {H : Hp} {Q : VK} (h : Q (.int 100000000000000000) H) : rI CPow (fun i j => .int (i ^ j.toNat)) (.int 10) (.int 17) H Q := r_I ⟨by decide, by decide, by decide⟩ h
theorem ixn {n j : Nat} (h : j < n) : ixN n (j : Int) = some j := by
  unfold ixN
  rw [if_pos (by omega), if_pos (by omega)]
  rfl
theorem map_at {ns : List Int} {i : Nat} (h : i < ns.length) : (ns.map V.int)[i]? = some (.int ns[i]) := by
  rw [List.getElem?_map, List.getElem?_eq_getElem h]
  rfl
theorem r_tyL {p : Addr} {xs : List V} (hx : SqL K H p xs) {B : Prop} (h : B) : tyV K "list" (.ref p) H ∧ B := ⟨.inl ⟨rfl, _, hx⟩, h⟩
end
/-! ### tests -/
theorem i_T {b : Bool} {A B : Prop} (hb : b = true) (h : A) : if b = true then A else B := by
  rw [if_pos hb]
  exact h
theorem i_F {b : Bool} {A B : Prop} (hb : b = false) (h : B) : if b = true then A else B := by
  rw [hb, if_neg Bool.false_ne_true]
  exact h
theorem i_2 {b : Bool} {A B : Prop} (h1 : b = true → A) (h2 : b = false → B) : if b = true then A else B := by
  cases b with
  | true => exact i_T rfl (h1 rfl)
  | false => exact i_F rfl (h2 rfl)
theorem i_d {p : Prop} [Decidable p] {A B : Prop} (h1 : p → A) (h2 : ¬ p → B) : if decide p = true then A else B := by
  by_cases h : p
  · exact i_T (decide_eq_true h) (h1 h)
  · exact i_F (decide_eq_false h) (h2 h)
theorem i_n {p : Prop} [Decidable p] {A B : Prop} (h1 : ¬ p → A) (h2 : p → B) : if (!decide p) = true then A else B := by
  by_cases h : p
  · exact i_F (by rw [decide_eq_true h]; rfl) (h2 h)
  · exact i_T (by rw [decide_eq_false h]; rfl) (h1 h)
theorem small {n : Nat} (h : n ≤ 100000) : n ≤ sizeLine := Nat.le_trans h (by decide)
theorem smallLt {n : Nat} (h : n < 100000) : n < sizeLine := Nat.lt_of_lt_of_le h (by decide)
/-! ### heaps: what stays but at S -/
def Ex (S : Addr) (H H' : Hp) : Prop := ∀ a o, a ≠ S → H a = some o → H' a = some o
theorem Ex.refl (S : Addr) (H : Hp) : Ex S H H := fun _ _ _ h => h
theorem Ex.trans {S : Addr} {H H1 H2 : Hp} (a : Ex S H H1) (b : Ex S H1 H2) : Ex S H H2 := fun x o n h => b x o n (a x o n h)
theorem Ex.new {S : Addr} {H H1 : Hp} {p : Addr} {o : HO} (e : Ex S H H1) (h : H1 p = none) : Ex S H (upd H1 p o) := fun a u n ha => by
  rw [upd_ne (ne_of_none (e a u n ha) h)]
  exact e a u n ha
theorem Ex.mut {S : Addr} {H H1 : Hp} {p : Addr} {o : HO} (e : Ex S H H1) (h : H p = none) : Ex S H (upd H1 p o) := fun a u n ha => by
  rw [upd_ne (ne_of_none ha h)]
  exact e a u n ha
theorem Ex.at {S : Addr} {H H1 : Hp} {o : HO} (e : Ex S H H1) : Ex S H (upd H1 S o) := fun a u n ha => by
  rw [upd_ne n]
  exact e a u n ha
theorem Ex.same {S : Addr} {H H1 H2 : Hp} (e : Ex S H H1) (s : Same H1 H2) : Ex S H H2 := fun a u n ha => s a u (e a u n ha)
theorem same_new {H H1 : Hp} {p : Addr} {o : HO} (e : Same H H1) (h : H1 p = none) : Same H (upd H1 p o) := fun a u ha => by
  rw [upd_ne (ne_of_none (e a u ha) h)]
  exact e a u ha
theorem same_mut {H H1 : Hp} {p : Addr} {o : HO} (e : Same H H1) (h : H p = none) : Same H (upd H1 p o) := fun a u ha => by
  rw [upd_ne (ne_of_none ha h)]
  exact e a u ha
theorem same_tup {K : PySem.W.Frag} {H H' : Hp} {a : Addr} {xs : List V} (e : Same H H') (h : SqT K H a xs) : SqT K H' a xs := by
  rcases h with (h | ⟨o, h⟩) | h
  · exact .inl (.inl (e _ _ h))
  · exact .inl (.inr ⟨o, e _ _ h⟩)
  · exact .inr h
theorem Ex.seq {K : PySem.W.Frag} {S : Addr} {H H' : Hp} {a : Addr} {xs : List V} (e : Ex S H H') (n : a ≠ S) (h : SqL K H a xs) : SqL K H' a xs := by
  rcases h with (h | ⟨o, h⟩) | h
  · exact .inl (.inl (e _ _ n h))
  · exact .inl (.inr ⟨o, e _ _ n h⟩)
  · exact .inr h
theorem Ex.tup {K : PySem.W.Frag} {S : Addr} {H H' : Hp} {a : Addr} {xs : List V} (e : Ex S H H') (n : a ≠ S) (h : SqT K H a xs) : SqT K H' a xs := by
  rcases h with (h | ⟨o, h⟩) | h
  · exact .inl (.inl (e _ _ n h))
  · exact .inl (.inr ⟨o, e _ _ n h⟩)
  · exact .inr h
theorem sql {K : PySem.W.Frag} {H : Hp} {a : Addr} {xs : List V} (h : H a = some (.lst xs)) : SqL K H a xs := .inl (.inl h)
theorem sqt {K : PySem.W.Frag} {H : Hp} {a : Addr} {xs : List V} (h : H a = some (.tup xs)) : SqT K H a xs := .inl (.inl h)

theorem seq' {K : PySem.W.Frag} {H H' : Hp} {a : Addr} {xs : List V} (h : SqL K H a xs) (e : Same H H') : SqL K H' a xs := e.seq h
theorem tup' {K : PySem.W.Frag} {H H' : Hp} {a : Addr} {xs : List V} (h : SqT K H a xs) (e : Same H H') : SqT K H' a xs := same_tup e h
theorem same_at {H H' : Hp} {a : Addr} {o : HO} (e : Same H H') (h : H a = some o) : H' a = some o := e _ _ h
theorem ex_at {S : Addr} {H H' : Hp} {a : Addr} {o : HO} (e : Ex S H H') (n : a ≠ S) (h : H a = some o) : H' a = some o := e _ _ n h
theorem ne_nn {H : Hp} {a b : Addr} {o : HO} (h' : H b = none) (h : H a = some o) : a ≠ b := ne_of_none h h'
theorem ne_nn' {H : Hp} {a b : Addr} {o : HO} (h' : H b = none) (h : H a = some o) : b ≠ a := (ne_of_none h h').symm
section
variable {K : PySem.W.Frag} {σ : L2.St} {H : Hp} {tb te : TE} {c : TT} {Q : VK} {g : TG} {vs : List Nat}
theorem c_lcT (h : te σ H fun x H1 => ∃ a, x = .ref a ∧ (∃ xs, SqT K H1 a xs) ∧ ∀ D, H1 D = none → ∃ W : Nat → Nat → Hp → Prop, (∃ m, W 0 m (upd H1 D (.lst []))) ∧ ∀ i m G, W i m G →
      ((Itt K a).stop i G ∧ Q (.ref D) G) ∨ ((Itt K a).go i G ∧ ∃ Nx : Hp → Prop, (∀ G', Nx G' → ∃ m', m' < m ∧ W (i + 1) m' G') ∧ ∀ x G', (Itt K a).yld i G x G' → g x (wipe σ vs) G' fun σ2 H2 => wipe σ2 vs = wipe σ vs ∧ c σ2 H2 fun b H3 =>
        if b = true then tb σ2 H3 fun y H4 => ∃ acc, H4 D = some (.lst acc) ∧ acc.length < sizeLine ∧ Nx (upd H4 D (.lst (acc ++ [y]))) else Nx H3)) : tLc (iTup K te) g c tb vs σ H Q := h
theorem c_lcL (h : te σ H fun x H1 => ∃ a, x = .ref a ∧ (∃ xs, SqL K H1 a xs) ∧ ∀ D, H1 D = none → ∃ W : Nat → Nat → Hp → Prop, (∃ m, W 0 m (upd H1 D (.lst []))) ∧ ∀ i m G, W i m G →
      ((Itl K a).stop i G ∧ Q (.ref D) G) ∨ ((Itl K a).go i G ∧ ∃ Nx : Hp → Prop, (∀ G', Nx G' → ∃ m', m' < m ∧ W (i + 1) m' G') ∧ ∀ x G', (Itl K a).yld i G x G' → g x (wipe σ vs) G' fun σ2 H2 => wipe σ2 vs = wipe σ vs ∧ c σ2 H2 fun b H3 =>
        if b = true then tb σ2 H3 fun y H4 => ∃ acc, H4 D = some (.lst acc) ∧ acc.length < sizeLine ∧ Nx (upd H4 D (.lst (acc ++ [y]))) else Nx H3)) : tLc (iList K te) g c tb vs σ H Q := h
theorem c_lcR {ta : TA} (h : ta σ H fun us H1 => ∃ j : Int, us = [.int j] ∧ -(2 ^ 62) ≤ j ∧ j < 2 ^ 62 ∧ ∀ D, H1 D = none → ∃ W : Nat → Nat → Hp → Prop, (∃ m, W 0 m (upd H1 D (.lst []))) ∧ ∀ i m G, W i m G →
      ((Itr 0 j.toNat).stop i G ∧ Q (.ref D) G) ∨ ((Itr 0 j.toNat).go i G ∧ ∃ Nx : Hp → Prop, (∀ G', Nx G' → ∃ m', m' < m ∧ W (i + 1) m' G') ∧ ∀ x G', (Itr 0 j.toNat).yld i G x G' → g x (wipe σ vs) G' fun σ2 H2 => wipe σ2 vs = wipe σ vs ∧ c σ2 H2 fun b H3 =>
        if b = true then tb σ2 H3 fun y H4 => ∃ acc, H4 D = some (.lst acc) ∧ acc.length < sizeLine ∧ Nx (upd H4 D (.lst (acc ++ [y]))) else Nx H3)) : tLc (iRng1 ta) g c tb vs σ H Q := h
theorem c_yes {R : Bool → Hp → Prop} (h : R true H) : tYes σ H R := h
theorem in_bl (b : Bool) : ∀ bs : List Bool, inV (.bl b) (bs.map V.bl) = bs.contains b
  | [] => rfl
  | x :: r => by
    have ih := in_bl b r
    unfold inV at ih ⊢
    rw [List.map_cons, List.any_cons, ih, List.contains_cons]
    congr 1
    cases b <;> cases x <;> rfl
theorem flat_bl : ∀ bs : List Bool, (bs.map V.bl).all flatV = true
  | [] => rfl
  | x :: r => by
    rw [List.map_cons, List.all_cons, flat_bl r]
    rfl
end
/-! x is True, x is False where x may be None -/
def rIsW : R2 := fun x y H Q => ∃ b : Bool, y = .bl b ∧ (x = .non ∨ ∃ a, x = .bl a) ∧ Q (.bl (decide (x = .bl b))) H
def rNotW : R2 := fun x y H Q => ∃ b : Bool, y = .bl b ∧ (x = .non ∨ ∃ a, x = .bl a) ∧ Q (.bl (!decide (x = .bl b))) H
theorem op_isW {X : Cx} : OpR X (compareOp .Is) rIsW := by
  intro pins s σ H x y v u Q I rx ry h
  obtain ⟨b, rfl, hx, q⟩ := h
  cases (show u = Value.bool b from ry)
  rcases hx with rfl | ⟨a, rfl⟩
  · cases (show v = Value.none from rx)
    exact wpAny_is_other rfl (fun z => nomatch z) ⟨.bl false, H, I, rfl, by simpa using q⟩
  · cases (show v = Value.bool a from rx)
    by_cases e : a = b
    · subst e
      exact wpAny_is_self rfl ⟨.bl true, H, I, rfl, by simpa using q⟩
    · exact wpAny_is_other rfl (fun z => e (Value.bool.inj z)) ⟨.bl false, H, I, rfl, by simpa [e] using q⟩
theorem op_notW {X : Cx} : OpR X (compareOp .IsNot) rNotW := by
  intro pins s σ H x y v u Q I rx ry h
  obtain ⟨b, rfl, hx, q⟩ := h
  cases (show u = Value.bool b from ry)
  rcases hx with rfl | ⟨a, rfl⟩
  · cases (show v = Value.none from rx)
    exact wpAny_isNot_other rfl (fun z => nomatch z) ⟨.bl true, H, I, rfl, by simpa using q⟩
  · cases (show v = Value.bool a from rx)
    by_cases e : a = b
    · subst e
      exact wpAny_isNot_self rfl ⟨.bl false, H, I, rfl, by simpa using q⟩
    · exact wpAny_isNot_other rfl (fun z => e (Value.bool.inj z)) ⟨.bl true, H, I, rfl, by simpa [e] using q⟩
theorem r_isW {x : V} {b : Bool} {H : Hp} {Q : VK} (hx : x = .non ∨ ∃ a, x = .bl a) (q : Q (.bl (decide (x = .bl b))) H) : rIsW x (.bl b) H Q := ⟨b, rfl, hx, q⟩
theorem r_notW {x : V} {b : Bool} {H : Hp} {Q : VK} (hx : x = .non ∨ ∃ a, x = .bl a) (q : Q (.bl (!decide (x = .bl b))) H) : rNotW x (.bl b) H Q := ⟨b, rfl, hx, q⟩

/-! ### more steps: slices, truths that may be None, what is no list stays -/
section
variable {K : PySem.W.Frag} {σ : L2.St} {H : Hp} {ta te : TE} {Q : VK}
theorem c_sl {r : V → Option Int → Option Int → Hp → VK → Prop} {tl th : TO} (h : te σ H fun x H1 => tl σ H1 fun l H2 => th σ H2 fun u H3 => r x l u H3 Q) : tSl r te tl th σ H Q := h
theorem c_noPart {Q : Option Int → Hp → Prop} (h : Q none H) : tNoPart σ H Q := h
theorem c_part {Q : Option Int → Hp → Prop} (h : te σ H fun x H1 => ∃ i, x = .int i ∧ Q (some i) H1) : tPart te σ H Q := h
theorem r_slL {p : Addr} {xs : List V} {lo hi : Option Int} (hx : SqL K H p xs) (h : ∀ q, H q = none → Q (.ref q) (upd H q (.lst (cutV xs lo hi)))) : rSlL K (.ref p) lo hi H Q := ⟨p, xs, rfl, hx, h⟩
theorem r_slT {p : Addr} {xs : List V} {lo hi : Option Int} (hx : SqT K H p xs) (hn : ¬ (HT.sIx xs.length 0 lo = 0 ∧ HT.sIx xs.length xs.length hi = xs.length)) (h : ∀ q, H q = none → Q (.ref q) (upd H q (.tup (cutV xs lo hi)))) : rSlT K (.ref p) lo hi H Q := ⟨p, xs, rfl, hx, hn, h⟩
theorem r_cat {p q : Addr} {xs ys : List V} (hx : H p = some (.lst xs)) (hy : H q = some (.lst ys)) (hl : xs.length + ys.length ≤ sizeLine) (h : ∀ r, H r = none → Q (.ref r) (upd H r (.lst (xs ++ ys)))) : rCat (.ref p) (.ref q) H Q := ⟨p, q, xs, ys, rfl, rfl, hx, hy, hl, h⟩
theorem r_catT {p q : Addr} {xs ys : List V} (hx : SqT K H p xs) (hy : SqT K H q ys) (hn : xs ≠ []) (hl : xs.length + ys.length ≤ sizeLine) (h1 : ys = [] → Q (.ref p) H) (h2 : ys ≠ [] → ∀ r, H r = none → Q (.ref r) (upd H r (.tup (xs ++ ys)))) : rCatT K (.ref p) (.ref q) H Q := ⟨p, q, xs, ys, rfl, rfl, hx, hy, hn, hl, h1, h2⟩
end
/-- a truth: None, or a bool -/
def tb : Option Bool → V
  | none => .non
  | some b => .bl b
theorem in_tb (x : Option Bool) : ∀ bs : List (Option Bool), inV (tb x) (bs.map tb) = bs.contains x
  | [] => rfl
  | y :: r => by
    have ih := in_tb x r
    unfold inV at ih ⊢
    rw [List.map_cons, List.any_cons, ih, List.contains_cons]
    congr 1
    rcases x with _ | x <;> rcases y with _ | y <;> first | rfl | (cases x <;> rfl) | (cases y <;> rfl) | (cases x <;> cases y <;> rfl)
theorem flat_tb : ∀ bs : List (Option Bool), (bs.map tb).all flatV = true
  | [] => rfl
  | x :: r => by
    rw [List.map_cons, List.all_cons, flat_tb r]
    cases x <;> rfl
theorem tb_or (x : Option Bool) : tb x = .non ∨ ∃ a, tb x = .bl a := by
  cases x with
  | none => exact .inl rfl
  | some b => exact .inr ⟨b, rfl⟩
theorem tb_true (x : Option Bool) : decide (tb x = .bl true) = decide (x = some true) := by
  rcases x with _ | x
  · simp [tb]
  · cases x <;> simp [tb]
/-- what is no list stays -/
def Tp (H H' : Hp) : Prop := ∀ a o, H a = some o → (∀ ys, o ≠ .lst ys) → H' a = some o
theorem Tp.refl (H : Hp) : Tp H H := fun _ _ h _ => h
theorem Tp.trans {H H1 H2 : Hp} (a : Tp H H1) (b : Tp H1 H2) : Tp H H2 := fun x o h n => b x o (a x o h n) n
theorem Tp.same {H H1 : Hp} (s : Same H H1) : Tp H H1 := fun x o h _ => s x o h
theorem Tp.ex {S : Addr} {H H1 : Hp} {xs : List V} (e : Ex S H H1) (h : H S = some (.lst xs)) : Tp H H1 := fun x o hx n => e x o (fun z => by
  subst z
  rw [h] at hx
  exact n _ (Option.some.inj hx).symm) hx
theorem Tp.lst {H H1 : Hp} {p : Addr} {xs : List V} {o : HO} (e : Tp H H1) (h : H1 p = some (.lst xs)) : Tp H (upd H1 p o) := fun x u hx n => by
  have h2 := e x u hx n
  by_cases z : x = p
  · subst z
    rw [h] at h2
    exact absurd (Option.some.inj h2).symm (n _)
  · rw [upd_ne z]
    exact h2
theorem Tp.new {H H1 : Hp} {p : Addr} {o : HO} (e : Tp H H1) (h : H1 p = none) : Tp H (upd H1 p o) := fun x u hx n => by
  have h2 := e x u hx n
  rw [upd_ne (ne_of_none h2 h)]
  exact h2
theorem Tp.tup {K : PySem.W.Frag} {H H' : Hp} {a : Addr} {xs : List V} (e : Tp H H') (h : SqT K H a xs) : SqT K H' a xs := by
  rcases h with (h | ⟨o, h⟩) | h
  · exact .inl (.inl (e _ _ h (fun _ z => nomatch z)))
  · exact .inl (.inr ⟨o, e _ _ h (fun _ z => nomatch z)⟩)
  · exact .inr h
theorem Ex.free {S : Addr} {H H' : Hp} {q : Addr} (e : Ex S H H') (n : q ≠ S) (h : H' q = none) : H q = none := by
  cases z : H q with
  | none => rfl
  | some o =>
    have := e _ _ n z
    rw [h] at this
    cases this
/-! a test's outcome said by itself -/
def tMid (t : TT) : TT := fun σ H R => ∃ M : Bool → Hp → Prop, t σ H M ∧ ∀ b H', M b H' → R b H'
theorem pt_mid {X : Cx} {e : Expr} {t : TT} (h : PT X e t) : PT X e (tMid t) := ⟨fun pins s σ H Q I ⟨M, hm, k⟩ => thn (h.run pins s σ H M I hm) fun b s' ⟨H', I', q⟩ => ⟨H', I', k b H' q⟩⟩
theorem c_mid {t : TT} {σ : L2.St} {H : Hp} {R : Bool → Hp → Prop} (p : Prop) [Decidable p] (h : t σ H fun b H' => H' = H ∧ b = decide p) (h1 : p → R true H) (h2 : ¬ p → R false H) : tMid t σ H R :=
  ⟨_, h, fun b H' ⟨e1, e2⟩ => by
    subst e1 e2
    by_cases z : p
    · rw [decide_eq_true z]
      exact h1 z
    · rw [decide_eq_false z]
      exact h2 z⟩
theorem cut_to {xs ys : List V} {r : Int} (h : r = (xs.length : Int)) : cutV (xs ++ ys) none (some r) = xs := by
  subst h
  unfold cutV
  rw [HT.sIx_none, HT.sIx_nat, List.length_append, List.drop_zero, Nat.min_eq_left (by omega), Nat.sub_zero, List.take_left']
  rfl
theorem cut_from {xs ys : List V} {r : Int} (h : r = (xs.length : Int)) : cutV (xs ++ ys) (some r) none = ys := by
  subst h
  unfold cutV
  rw [HT.sIx_none, HT.sIx_nat, List.length_append, Nat.min_eq_left (by omega), List.drop_left', List.take_of_length_le (by omega)]
  rfl
theorem new_at {H H' : Hp} {p : Addr} {o : HO} (h : H p = none) (s : Same (upd H p o) H') : H' p = some o := s _ _ upd_same
theorem old_at {H H' : Hp} {p : Addr} {o : HO} (h : H p = some o) (s : Same H H') : H' p = some o := s _ _ h

/-! ### tuples unpacked, defs in local names, what stays where S may change -/
section
variable {K : PySem.W.Frag} {σ : L2.St} {H : Hp}
theorem c_gtup {n : Nat} {u : TGs} {a : Addr} {xs : List V} {Q : L2.St → Hp → Prop} (hx : SqT K H a xs) (hn : xs.length = n) (h : u xs σ H Q) : gTup K n u (.ref a) σ H Q := ⟨a, xs, rfl, hx, hn, h⟩
theorem c_gcons {t : TG} {u : TGs} {v : V} {r : List V} {Q : L2.St → Hp → Prop} (h : t v σ H fun σ' H' => u r σ' H' Q) : gCons t u (v :: r) σ H Q := ⟨v, r, rfl, h⟩
theorem c_gnil {Q : L2.St → Hp → Prop} (h : Q σ H) : gNil [] σ H Q := ⟨rfl, h⟩
end
def Aw (S : Addr) (H : Hp) : Hp := fun a => if a = S then none else H a
section
variable {S : Addr} {H H' : Hp}
theorem Aw.of {a : Addr} {o : HO} (h : H a = some o) (n : a ≠ S) : Aw S H a = some o := by
  unfold Aw
  rw [if_neg n]
  exact h
theorem Aw.to : Same (Aw S H) H := fun a o h => by
  unfold Aw at h
  by_cases e : a = S
  · rw [if_pos e] at h
    cases h
  · rw [if_neg e] at h
    exact h
theorem Aw.ne {a : Addr} {o : HO} (h : Aw S H a = some o) : a ≠ S := fun e => by
  unfold Aw at h
  rw [if_pos e] at h
  cases h
theorem Aw.ex (e : Ex S H H') : Same (Aw S H) (Aw S H') := fun a o h => Aw.of (e a o (Aw.ne h) (Aw.to _ _ h)) (Aw.ne h)
theorem Aw.same (e : Same H H') : Same (Aw S H) (Aw S H') := fun a o h => Aw.of (e a o (Aw.to _ _ h)) (Aw.ne h)
theorem Aw.up (e : Same H H') (n : H S = none) : Same H (Aw S H') := fun a o h => Aw.of (e a o h) (ne_of_none h n)
end
theorem c_callL {σ : L2.St} {H : Hp} {i : Nat} {f : Addr} {sp : Sp} {dvs : List V} {E : XK} {t : TA} {Q : VK} (hs : σ[i]? = some (some (.ref f))) (h : t σ H fun vs H1 => sp (vs ++ dvs) H1 Q E) : tCallL i f sp dvs E t σ H Q := ⟨hs, h⟩
theorem Aw.at {S p : Addr} {H : Hp} {o : HO} : Same (Aw p (Aw S H)) (Aw p (Aw S (upd H p o))) := fun a x h => by
  have n := Aw.ne h
  refine Aw.of (Aw.of ?_ (Aw.ne (Aw.to _ _ h))) n
  rw [upd_ne n]
  exact Aw.to _ _ (Aw.to _ _ h)
theorem c_lstRg {σ : L2.St} {H : Hp} {Q : VK} {te : L2.St → Hp → (Int → Int → Hp → Prop) → Prop} (h : te σ H fun a b H1 => RgOk a b ∧ ∀ q, H1 q = none → Q (.ref q) (upd H1 q (.lst (rgV a b)))) : tLstRg te σ H Q := h
theorem c_rg1 {σ : L2.St} {H : Hp} {ta : TE} {Q : Int → Int → Hp → Prop} (h : ta σ H fun x H1 => ∃ n, x = .int n ∧ Q 0 n H1) : tRg1 ta σ H Q := h
theorem seq_ix {d : Int} {n : Nat} (h0 : 0 ≤ d) (h1 : d < n) : seqIndex? d n = some d.toNat := by
  have h2 : ¬ d < 0 := by omega
  simp [seqIndex?, h2, h0, h1]
theorem erase_map {α β : Type} (f : α → β) : ∀ (l : List α) (i : Nat), (l.map f).eraseIdx i = (l.eraseIdx i).map f
  | [], _ => rfl
  | _ :: _, 0 => rfl
  | x :: l, i + 1 => by
    rw [List.map_cons, List.eraseIdx_cons_succ, List.eraseIdx_cons_succ, List.map_cons, erase_map f l i]
theorem Aw.no {S p : Addr} {H : Hp} (h : H p = none) : Aw S H p = none := by
  unfold Aw
  split
  · rfl
  · exact h
theorem Aw.hide {S p : Addr} {H : Hp} {o : HO} (h : H p = none) : Same (Aw S H) (Aw p (Aw S (upd H p o))) := Aw.up (Aw.same (same_new (Same.refl _) h)) (Aw.no h)
theorem c_aug {σ : L2.St} {H : Hp} {i : Nat} {te : TE} {ti : TIp} {D : Ends} {x : V} (hx : σ[i]? = some (some x)) (h : te σ H fun y H1 => ti x y H1 fun z H2 => D.nx (σ.set i (some z)) H2) : tAug i te ti D σ H := ⟨x, hx, h⟩
theorem r_ipI {f : Int → Int → Int} {i j : Int} {H : Hp} {Q : VK} (h : Q (.int (f i j)) H) : ipI f (.int i) (.int j) H Q := ⟨i, j, rfl, rfl, h⟩
theorem Aw.mut {S : Addr} {H : Hp} {o : HO} : Same (Aw S H) (Aw S (upd H S o)) := fun b x hb => by
  refine Aw.of ?_ (Aw.ne hb)
  rw [upd_ne (Aw.ne hb)]
  exact Aw.to _ _ hb
/-- a new object: what stood before stands, and it stands there -/
@[elab_as_elim] theorem alc {p : Addr} {H : Hp} {P : Hp → Prop} (o : HO) (hp : H p = none) (h : ∀ H', Same H H' → H' p = some o → P H') : P (upd H p o) := h _ (same_new (Same.refl _) hp) upd_same
/-! an expression's value said by itself -/
def tMidE (t : TE) : TE := fun σ H Q => ∃ M : V → Hp → Prop, t σ H M ∧ ∀ v H', M v H' → Q v H'
theorem pe_mid {X : Cx} {e : Expr} {t : TE} (h : PE X e t) : PE X e (tMidE t) := ⟨fun pins s σ H Q I ⟨M, hm, k⟩ => thn (h.run pins s σ H M I hm) fun v s' ⟨x, H', I', r, q⟩ => ⟨x, H', I', r, k x H' q⟩⟩
theorem c_midE {te : TE} {σ : L2.St} {H : Hp} {Q : VK} (M : V → Hp → Prop) (h : te σ H M) (k : ∀ v H', M v H' → Q v H') : tMidE te σ H Q := ⟨M, h, k⟩
/-- what is new in H' -/
def Nw (H H' : Hp) : Hp := fun a => match H a with
  | none => H' a
  | some _ => none
section
variable {S : Addr} {H H' H2 : Hp}
theorem Nw.of {a : Addr} {o : HO} (h : H' a = some o) (n : H a = none) : Nw H H' a = some o := by
  unfold Nw
  rw [n]
  exact h
theorem Nw.to : Same (Nw H H') H' := fun a o h => by
  unfold Nw at h
  cases e : H a with
  | none => rw [e] at h; exact h
  | some x => rw [e] at h; cases h
theorem Nw.no {a : Addr} {o : HO} (h : Nw H H' a = some o) : H a = none := by
  unfold Nw at h
  cases e : H a with
  | none => rfl
  | some x => rw [e] at h; cases h
theorem Nw.ne {a b : Addr} {o x : HO} (h : Nw H H' a = some o) (g : H b = some x) : a ≠ b := fun z => by
  rw [z] at h
  rw [Nw.no h] at g
  cases g
theorem Nw.aw {x : HO} (g : H S = some x) : Same (Nw H H') (Aw S H') := fun a o h => Aw.of (Nw.to _ _ h) (Nw.ne h g)
end
section
variable {S : Addr} {B H H1 H' : Hp}
theorem Nw.same (e : Same H H') : Same (Nw B H) (Nw B H') := fun a o h => Nw.of (e a o (Nw.to _ _ h)) (Nw.no h)
theorem Nw.ex {x : HO} (g : B S = some x) (e : Ex S H H') : Same (Nw B H) (Nw B H') := fun a o h => Nw.of (e a o (Nw.ne h g) (Nw.to _ _ h)) (Nw.no h)
theorem Nw.up (e : ∀ a, H a = none → B a = none) : Same (Nw H H') (Nw B H') := fun a o h => Nw.of (Nw.to _ _ h) (e a (Nw.no h))
theorem Nw.at {p : Addr} {o : HO} : Same (Aw p (Nw B H)) (Aw p (Nw B (upd H p o))) := fun a x h => by
  have n := Aw.ne h
  have h2 := Aw.to _ _ h
  refine Aw.of (Nw.of ?_ (Nw.no h2)) n
  rw [upd_ne n]
  exact Nw.to _ _ h2
theorem Nw.neI {a p : Addr} {o x : HO} (h : Nw B H a = some o) (n : B p = some x) : a ≠ p := Nw.ne h n
/-- what is free now was free before -/
theorem Ex.fr {x : HO} (e : Ex S H H') (g : H' S = some x) {a : Addr} (h : H' a = none) : H a = none := by
  by_cases z : a = S
  · subst z
    rw [g] at h
    cases h
  · exact e.free z h
end

/-! ### the inner walk of a comprehension's second for -/
section
variable {X : Cx} {s : Shared} {H : Hp} {scope : Scope} {e : Env} {fp : List Addr} {tg l : Expr} {tl : TE}
theorem pi_listB (h : PE (X.blk s H scope e fp) l tl) : PI (X.blk s H scope e fp) tg l (iList X.K tl) := pi_list h
theorem pi_tupB (h : PE (X.blk s H scope e fp) l tl) : PI (X.blk s H scope e fp) tg l (iTup X.K tl) := pi_tup h
end
section
variable {X : Cx} {s : Shared} {H : Hp} {scope : Scope} {e : Env} {fp : List Addr}
theorem ix_tupB : IxR (X.blk s H scope e fp) (rIxT X.K) := ix_tup
theorem ix_listB : IxR (X.blk s H scope e fp) (rIxL X.K) := ix_list
theorem pg_tupB {es : List Expr} {k : Nat} {t : TGs} {n : Nat} {pos : Pos} (hc : X.calm = true) (h : PGs (X.blk s H scope e fp) es t)
    (hn : (assignEach es (X.blk s H scope e fp).env).length = n := by rfl) (hst : (assignEach es (X.blk s H scope e fp).env).findIdx? (·.1) = none := by rfl) : PG (X.blk s H scope e fp) (.Tuple es k pos) (gTup X.K n t) := pg_tup hc h hn hst
end

section
variable {K : PySem.W.Frag} {H H' : Hp}
/-! isinstance -/
theorem ty_lst {a : Addr} {xs : List V} (h : SqL K H a xs) : TyX K H (.ref a) (.type "list") := by
  rcases h with (h | ⟨o, h⟩) | ⟨o, _, _, h, c, _⟩
  · exact .base (.lst h)
  · exact .base (.frz h)
  · exact .kList h c
theorem ty_tup {a : Addr} {xs : List V} (h : SqT K H a xs) : TyX K H (.ref a) (.type "tuple") := by
  rcases h with (h | ⟨o, h⟩) | ⟨o, _, _, h, c, _⟩
  · exact .base (.tup h)
  · exact .fTuple h
  · exact .kTuple h c
theorem kit2 {t : String} {b : Bool} (h1 : kitB t "list" = some b) (h2 : b = true ∨ kitB t "tuple" = some false) : PySem.W.kitAny K (.type t) [.type "list", .type "tuple"] = some b := by
  refine kitAny_cons (kit_ty h1) (fun e => ?_) (fun e => e)
  subst e
  rcases h2 with h | h
  · cases h
  · exact kitAny_cons (kit_ty h) (fun _ => rfl) (fun e => e)
theorem kit2t {t : String} (h1 : kitB t "list" = some false) (h2 : kitB t "tuple" = some true) : PySem.W.kitAny K (.type t) [.type "list", .type "tuple"] = some true :=
  kitAny_cons (kit_ty h1) (fun _ => kitAny_cons (kit_ty h2) (fun e => nomatch e) (fun e => e)) (fun e => nomatch e)
theorem r_isi2 {x : V} {tp : Addr} {t : Value} {b : Bool} {Q : VK} (hT : H tp = some (.tup [.ty "list", .ty "tuple"])) (ty : TyX K H x t) (e : PySem.W.kitAny K t [.type "list", .type "tuple"] = some b) (q : Q (.bl b) H) : rIsiT K [x, .ref tp] H Q :=
  ⟨x, tp, _, t, _, b, rfl, hT, .cons (.ty _) (.cons (.ty _) .nil), ty, e, q⟩
theorem r_isi {x : V} {t c : String} {b : Bool} {Q : VK} (ty : TyX K H x (.type t)) (e : kitB t c = some b) (q : Q (.bl b) H) : rIsi K [x, .ty c] H Q :=
  ⟨x, _, _, _, b, rfl, .ty _, ty, kit_ty e, q⟩
theorem two_lst {x : V} {tp a : Addr} {xs : List V} {Q : VK} (hT : H tp = some (.tup [.ty "list", .ty "tuple"])) (h : SqL K H a xs) (q : Q (.bl true) H) : rIsiT K [.ref a, .ref tp] H Q := r_isi2 hT (ty_lst h) (kit2 (by decide +kernel) (.inl rfl)) q
theorem two_tup {x : V} {tp a : Addr} {xs : List V} {Q : VK} (hT : H tp = some (.tup [.ty "list", .ty "tuple"])) (h : SqT K H a xs) (q : Q (.bl true) H) : rIsiT K [.ref a, .ref tp] H Q := r_isi2 hT (ty_tup h) (kit2t (by decide +kernel) (by decide +kernel)) q
theorem two_non {tp : Addr} {Q : VK} (hT : H tp = some (.tup [.ty "list", .ty "tuple"])) (q : Q (.bl false) H) : rIsiT K [.non, .ref tp] H Q := r_isi2 hT (.base .non) (kit2 (by decide +kernel) (.inr (by decide +kernel))) q
theorem two_bl {tp : Addr} {b : Bool} {Q : VK} (hT : H tp = some (.tup [.ty "list", .ty "tuple"])) (q : Q (.bl false) H) : rIsiT K [.bl b, .ref tp] H Q := r_isi2 hT (.base (.bl b)) (kit2 (by decide +kernel) (.inr (by decide +kernel))) q
theorem two_int {tp : Addr} {b : Int} {Q : VK} (hT : H tp = some (.tup [.ty "list", .ty "tuple"])) (q : Q (.bl false) H) : rIsiT K [.int b, .ref tp] H Q := r_isi2 hT (.base (.int b)) (kit2 (by decide +kernel) (.inr (by decide +kernel))) q
theorem two_str {tp : Addr} {b : Str} {Q : VK} (hT : H tp = some (.tup [.ty "list", .ty "tuple"])) (q : Q (.bl false) H) : rIsiT K [.str b, .ref tp] H Q := r_isi2 hT (.base (.str b)) (kit2 (by decide +kernel) (.inr (by decide +kernel))) q
end

/-! ### errors of the program's own: PagesError.__init__(self, text), isinstance of a caught error that has fields -/
section
variable {X : Cx} {e : Expr} {es : List Expr} {ta : TA} {p1 p2 pos : Pos}
/-- Own.__init__(self, ..), Own a class of the program without an __init__ of its own -/
theorem pe_owninit {x : Str} {D : Addr} {pl : Sem Bool} (hg : Gl X x) (hm : X.mg x = some (.ref D)) (ga : PySem.W.specialIn X.K (.ref D) "__getattribute__" = some (some (.builtin "type.__getattribute__"))) (rd : PySem.W.readsIn X.K D (.type "type") = true)
    (vV : PySem.W.findCls X.K (.ref D) (.type "type") "__init__" = some (.val (.builtin "ValueError.__init__"))) (ha : PA X (e :: es) ta)
    (hc : eval (.Call (.Attribute (.Name x p1) "__init__" p2) (e :: es) [] pos) X.env = (do { let ov ← eval (.Name x p1) X.env; standAt p2.atName; let (f, first) ← holding [ov] (getMethod ov "__init__" pl); callWith pos f first (backTo pos (starEach (e :: es) X.env)) (backToKw pos (keywordEach [] X.env)) }) := by rfl)
    (hd : (x == ("__debug__" : Str)) = false := by decide) (he : starEach (e :: es) X.env = (false, eval e X.env) :: starEach es X.env := by rfl) (hp : (backTo pos (starEach es X.env)).any (·.1) = false := by rfl) :
    PE X (.Call (.Attribute (.Name x p1) "__init__" p2) (e :: es) [] pos) (tVeI X.K ta) := ⟨fun pins s σ H Q I h => by
  refine PySem.W.methodCall_KW (ld_glob I hg hm ?_ hd) hc
  refine PySem.W.method_cls I.kIn ga (PySem.W.cls_value (v := .builtin "ValueError.__init__") I.kIn rd vV (by decide +kernel) ?_)
  show wpAny _ _ (callWith pos (.builtin "ValueError.__init__") [] _ []) _ _ _
  exact PyProof.Rows.callWith_method1 (thn (ha.run pos pins _ σ H _ (I.tok _) h) fun us s1 w => by
    obtain ⟨vs, H1, I1, r1, a, C, ws, ev, hl, T, ea, q⟩ := w
    subst ev
    obtain ⟨u0, ur, eu, ra, rw'⟩ : ∃ u0 ur, us = u0 :: ur ∧ RelV (.ref a) u0 ∧ Vals ws ur := by
      cases r1 with
      | cons ra rw' => exact ⟨_, _, rfl, ra, rw'⟩
    subst eu
    cases (show u0 = Value.ref a from ra)
    have hn : ur.length ≤ sizeLine := by
      rw [← Paired.length rw']
      exact Nat.le_trans hl (by decide)
    exact oinit_ok T I1 ea hn fun s' J => ⟨.non, H1, J, rfl, q⟩) he hp⟩
end
/-- isinstance(e, c), e the caught error, which has fields -/
def rIsX (K : PySem.W.Frag) (D a : Addr) (cls : Value) (d : Option Addr) : List V → Hp → VK → Prop := fun xs H Q => ∃ (c : V) (cv : Value) (b : Bool) (dd : Addr) (fs : List (Str × V)),
  xs = [.ref a, c] ∧ cls = .ref D ∧ d = some dd ∧ H dd = some (.xd fs) ∧ (∀ u, RelV c u → u = cv) ∧ PySem.W.kitOne K (.ref D) cv = some b ∧ Q (.bl b) H
structure IsC (K : PySem.W.Frag) (D : Addr) : Prop where
  c : PySem.W.isClsIn K D = true
  ga : PySem.W.findIn K (.ref D) "__getattribute__" = some (some (.builtin "BaseException.__getattribute__"))
  gt : PySem.W.findIn K (.ref D) "__getattr__" = some none
  sub : PySem.W.subIn K (.ref D) (.type "BaseException") = some true
  kc : PySem.W.findIn K (.ref D) "__class__" = some (some (.builtin "object.__class__"))
  kg : PySem.W.specialIn K (.builtin "object.__class__") "__get__" = some (some (.builtin "getset_descriptor.__get__"))
  kt : PySem.W.takesIn K (.builtin "object.__class__") = some true
  ob : PySem.W.mroIn K D (.type "object") = some true
theorem call_isX {X : Cx} {a D : Addr} {oe : Obj} {cls : Value} {d : Option Addr} {pn : List (Addr × Obj)} (C : IsC X.K D) (hz : Zc cls d oe) (hf : ∃ vs, oe.data = .fields vs) : CallR (X.suite a ((a, oe) :: pn)) (.builtin "isinstance") (rIsX X.K D a cls d) := fun pins s σ H xs us Q I r h => by
  obtain ⟨c, cv, b, dd, fs, ex, e1, e2, hx, hcv, ek, q⟩ := h
  subst ex e1 e2
  obtain ⟨u1, u2, eu, rx, rt⟩ : ∃ u1 u2, us = [u1, u2] ∧ RelV (.ref a) u1 ∧ RelV c u2 := by
    cases r with
    | cons rx rr =>
      cases rr with
      | cons rt rr =>
        cases rr
        exact ⟨_, _, rfl, rx, rt⟩
  subst eu
  cases (show u1 = Value.ref a from rx)
  cases hcv _ rt
  have hg : s.heap.get? a = some oe := (I.pin (a, oe) (List.mem_append_left _ List.mem_cons_self)).1
  have hx' : ObjOk X.prog X.w H s.heap dd (.xd fs) := I.hok dd _ hx
  obtain ⟨mA, ⟨od, es, ep, hod, _⟩, _⟩ := hx'
  have J : PySem.W.InstAt s.heap a oe D (some od) := by
    obtain ⟨vs, hv⟩ := hf
    obtain ⟨oc, odd, oda, osl⟩ := oe
    obtain ⟨h1, h2⟩ := hz
    dsimp only at h1 h2 hv
    subst h1 h2 hv
    exact ⟨hg, rfl, rfl, hod⟩
  exact PySem.W.kia_one (PySem.W.kitx_exc C.c C.ga C.gt C.sub C.kc C.kg C.kt C.ob) I.kIn J ek (fun z => nomatch z) fun tk => ⟨.bl b, H, I.kept (t' := tk) fun _ _ z => z, rfl, q⟩
/-- an own class as isinstance's and except's second -/
theorem kit_own {K : PySem.W.Frag} {C D : Addr} {b : Bool} (h1 : PySem.W.isClsIn K D = true) (h2 : PySem.W.typeIn K (.ref D) = some (.type "type")) (h3 : PySem.W.subIn K (.ref C) (.ref D) = some b) (h4 : b = true ∨ C ≠ D) : PySem.W.kitOne K (.ref C) (.ref D) = some b := by
  have e : PySem.W.kitCls K (.ref C) (.ref D) = some b := by
    show (if ((PySem.W.clsIn K D).isSome && PySem.W.typeIn K (.ref D) == some (.type "type")) = true then PySem.W.subIn K (.ref C) (.ref D) else none) = some b
    rw [show (PySem.W.clsIn K D).isSome = true from h1, h2]
    exact h3
  unfold PySem.W.kitOne
  by_cases q : (Value.ref C == Value.ref D) = true
  · rw [if_pos q]
    rcases h4 with h4 | h4
    · rw [h4]
    · exact absurd (Value.ref.inj (beq_iff_eq.mp q)) h4
  · rw [if_neg q]
    exact e
theorem exm_own {K : PySem.W.Frag} {C D : Addr} {b : Bool} (h0 : PySem.W.subIn K (.ref D) (.type "BaseException") = some true) (h1 : PySem.W.isClsIn K D = true) (h2 : PySem.W.typeIn K (.ref D) = some (.type "type")) (h3 : PySem.W.subIn K (.ref C) (.ref D) = some b) : PySem.W.exmOne K (.ref C) (.ref D) = some b := by
  show (if (PySem.W.subIn K (.ref D) (.type "BaseException") == some true) = true then (if ((PySem.W.clsIn K D).isSome && PySem.W.typeIn K (.ref D) == some (.type "type")) = true then PySem.W.subIn K (.ref C) (.ref D) else none) else none) = some b
  rw [h0, show (PySem.W.clsIn K D).isSome = true from h1, h2]
  exact h3

theorem free' {H H' : Hp} {p : Addr} (h : H' p = none) (s : Same H H') : H p = none := s.free h
theorem passF {X : Cx} : Passes (L2.CX X.prog X.w) X E0 := fun _ _ _ _ _ _ _ h => by
  obtain ⟨_, _, _, _, _, _, _, _, _, _, _, _, z⟩ := h
  exact z.elim
section
variable {K : PySem.W.Frag} {σ : L2.St} {H : Hp} {D : Ends} {Q : VK} {te to : TE} {ta : TA}
theorem c_vei (h : ta σ H fun vs H1 => ∃ (a C : Addr) (ws : List V), vs = .ref a :: ws ∧ ws.length ≤ 1000 ∧ OexC K C ∧ H1 a = some (exo a C none) ∧ Q .non H1) : tVeI K ta σ H Q := h
theorem c_ost {f : Str} (h : te σ H fun y H1 => to σ H1 fun x H2 => ∃ a C : Addr, x = .ref a ∧ OexC K C ∧ PySem.W.findIn K (.ref C) f = some none ∧
  ((H2 a = some (exo a C none) ∧ ∀ dx, H2 dx = none → dx ≠ a → D.nx σ (upd (upd H2 dx (exd dx [(f, y)])) a (exo a C (some dx)))) ∨
    ∃ (dx : Addr) (fs : List (Str × V)), H2 a = some (exo a C (some dx)) ∧ H2 dx = some (exd dx fs) ∧ fs.length ≤ 900 ∧ D.nx σ (upd H2 dx (exd dx ((f, y) :: fs))))) : tOst K f to te D σ H := h
theorem c_callS {sp : Sp} {E : L2.St → XK} (h : ta σ H fun vs H1 => sp vs H1 Q (E σ)) : tCallS sp E ta σ H Q := h
theorem c_xf {a : Addr} {cls : Value} {d : Option Addr} {C : Addr} {f : Str} (h : te σ H fun x H1 => x = .ref a ∧ cls = .ref C ∧ ∃ (dd : Addr) (fs : List (Str × V)) (v : V), d = some dd ∧ H1 dd = some (.xd fs) ∧ fs.lookup f = some v ∧ Q v H1) : tXf a cls d C f te σ H Q := h
theorem c_mko {C : Addr} {sp : Sp} {dvs : List V} {R : XK} (h : ta σ H fun vs H1 => vs.length ≤ 1000 ∧ ∀ a, H1 a = none → sp (.ref a :: (vs ++ dvs)) (upd H1 a (exo a C none))
  (fun v H2 => v = .non ∧ ∃ (d : Addr) (fs : List (Str × V)), H2 a = some (exo a C (some d)) ∧ H2 d = some (exd d fs) ∧ H1 d = none ∧ R (.ref C) (some d) (upd (del H2 a) d (.xd fs))) (fun _ _ _ => False)) : tMkO C sp dvs ta σ H R := h
end
def iOr (w1 w2 : TI) : TI := fun σ H R => w1 σ H R ∨ w2 σ H R
theorem pi_or {X : Cx} {tg l : Expr} {w1 w2 : TI} (h1 : PI X tg l w1) (h2 : PI X tg l w2) : PI X tg l (iOr w1 w2) := ⟨fun pins s σ H R I h => h.elim (h1.run pins s σ H R I) (h2.run pins s σ H R I)⟩
theorem c_forA {w1 w2 : TI} {g : TG} {t : TS} {D : Ends} {σ : L2.St} {H : Hp} (h : tFor w1 g t D σ H) : tFor (iOr w1 w2) g t D σ H := Or.inl h
theorem c_forB {w1 w2 : TI} {g : TG} {t : TS} {D : Ends} {σ : L2.St} {H : Hp} (h : tFor w2 g t D σ H) : tFor (iOr w1 w2) g t D σ H := Or.inr h
/-- the error's __init__: the field is laid -/
def spErr (C : Addr) (f : Str) : Sp := fun vs H Q _ => ∃ (a : Addr) (v : V), vs = [.ref a, v] ∧ H a = some (exo a C none) ∧ ∀ dx, H dx = none → dx ≠ a → Q .non (upd (upd H dx (exd dx [(f, v)])) a (exo a C (some dx)))
/-- the heap behind C(v): the object gone again, its fields at d -/
theorem err_heap {C : Addr} {f : Str} {v : V} {H : Hp} {R : XK} (k : ∀ d H', H d = none → Same H H' → H' d = some (.xd [(f, v)]) → R (.ref C) (some d) H') {a : Addr} (ha : H a = none) :
    spErr C f [.ref a, v] (upd H a (exo a C none)) (fun x H2 => x = .non ∧ ∃ (d : Addr) (fs : List (Str × V)), H2 a = some (exo a C (some d)) ∧ H2 d = some (exd d fs) ∧ H d = none ∧ R (.ref C) (some d) (upd (del H2 a) d (.xd fs))) (fun _ _ _ => False) := by
  refine ⟨a, v, rfl, upd_same, fun dx hd ne => ⟨rfl, dx, [(f, v)], upd_same, (upd_ne ne).trans upd_same, ?_, ?_⟩⟩
  · rw [← hd, upd_ne ne]
  · have hd' : H dx = none := by rw [← hd, upd_ne ne]
    refine k dx _ hd' (fun b o hb => ?_) upd_same
    have n1 : b ≠ dx := ne_of_none hb hd'
    have n2 : b ≠ a := ne_of_none hb ha
    rw [upd_ne n1, del_ne n2, upd_ne n2, upd_ne n1, upd_ne n2]
    exact hb
/-- what may stand in a row's place -/
inductive Knd (K : PySem.W.Frag) (H : Hp) : V → Prop where
  | non : Knd K H .non
  | bl (b : Bool) : Knd K H (.bl b)
  | int (i : Int) : Knd K H (.int i)
  | str (s : Str) : Knd K H (.str s)
  | lst {a : Addr} {xs : List V} (h : SqL K H a xs) : Knd K H (.ref a)
  | tup {a : Addr} {xs : List V} (h : SqT K H a xs) : Knd K H (.ref a)
theorem Knd.same {K : PySem.W.Frag} {H H' : Hp} {v : V} (h : Knd K H v) (s : Same H H') : Knd K H' v := by
  cases h with
  | non => exact .non
  | bl b => exact .bl b
  | int i => exact .int i
  | str x => exact .str x
  | lst h => exact .lst (s.seq h)
  | tup h => exact .tup (same_tup s h)
def btw (v : V) (lo hi : Int) : Bool := match v with
  | .int i => decide (lo ≤ i) && decide (i ≤ hi)
  | _ => false
def spBetween (K : PySem.W.Frag) : Sp := fun vs H Q _ => ∃ (v : V) (lo hi : Int), vs = [v, .int lo, .int hi] ∧ Knd K H v ∧ Q (.bl (btw v lo hi)) H
theorem c_raise {C : Addr} {f : Str} {v : V} {H : Hp} {R : XK} (k : ∀ d H', H d = none → Same H H' → H' d = some (.xd [(f, v)]) → R (.ref C) (some d) H') :
    1 ≤ 1000 ∧ ∀ a, H a = none → spErr C f [.ref a, v] (upd H a (exo a C none)) (fun x H2 => x = .non ∧ ∃ (d : Addr) (fs : List (Str × V)), H2 a = some (exo a C (some d)) ∧ H2 d = some (exd d fs) ∧ H d = none ∧ R (.ref C) (some d) (upd (del H2 a) d (.xd fs))) (fun _ _ _ => False) :=
  ⟨by decide, fun _ ha => err_heap k ha⟩

/-! ### several except clauses, each with a name of its own -/
/-- a clause: the class that it names, the slot of its name, what its suite does -/
structure Clause where
  cl : Value
  at_ : Nat
  does : Addr → Value → Option Addr → TS
/-- behind a suite its name is gone -/
def Ends.off (D : Ends) (i : Nat) : Ends :=
  { nx := fun τ G => D.nx (τ.set i none) G
    rt := D.rt
    bk := fun τ G => D.bk (τ.set i none) G
    ct := fun τ G => D.ct (τ.set i none) G }
def wNamed (K : PySem.W.Frag) (W0 : WX) (D : Ends) : List Clause → WX
  | [] => W0
  | q :: qs => fun C d τ G => ∃ b : Bool, PySem.W.exmOne K C q.cl = some b ∧
      (b = true → ∀ e : Addr, G e = none → q.does e C d (Ends.off D q.at_) (τ.set q.at_ (some (.ref e))) G) ∧ (b = false → wNamed K W0 D qs C d τ G)
inductive NamedOk (X : Cx) : List ExceptHandler → List Clause → Prop
  | nil : NamedOk X [] []
  | cons {y m : Str} {c : Value} {i : Nat} {f : Addr → Value → Option Addr → TS} {st : Stmt} {sts : List Stmt} {p1 p2 : Pos} {hs : List ExceptHandler} {qs : List Clause}
      (slot : X.N[i]? = some m) (loc : X.env.kindOf m = some .local) (nm : Names X y c)
      (su : ∀ (e : Addr) (oe : Obj) (C : Value) (d : Option Addr) (pn : List (Addr × Obj)), Zc C d oe → (∃ vs, oe.data = .fields vs) → PSs (X.suite e ((e, oe) :: pn)) (st :: sts) (f e C d))
      (more : NamedOk X hs qs) : NamedOk X (.ExceptHandler (some (.Name y p1)) (some m) (st :: sts) p2 :: hs) (⟨c, i, f⟩ :: qs)
theorem ps_try_named {X : Cx} {body : List Stmt} {h1 : ExceptHandler} {hs : List ExceptHandler} {qs : List Clause} {pos : Pos} {tb : WX → TS} {W0 : WX}
    (stk : X.stack = X.env :: X.outer) (frm : X.env.frame = some X.env.locals) (nd : X.N.Nodup) (tk : Takes X W0)
    (inn : ∀ (W : WX) (pn : List (Addr × Obj)) (xe : Value → Shared → Prop), Takes (X.tr pn xe) W → PassesOwn (model X.prog X.w) X.A X.env xe → PSs (X.tr pn xe) body (tb W))
    (cls : NamedOk X (h1 :: hs) qs) : PS X (.Try body (h1 :: hs) [] [] pos) (fun D τ G => tb (wNamed X.K W0 D qs) D τ G) := by
  constructor
  intro pins s σ H D I rd
  have okX := I.ok
  have frames : X.A.frames = some (X.env :: X.outer) := okX.frames.trans (congrArg some stk)
  refine wpAny_Try_except ?_
  refine wpAny_mono ((inn (wNamed X.K W0 D qs) (X.pn ++ pins) (fun e s1 => wpAny (model X.prog X.w) X.A (noteFrame e X.env)
    (fun _ s2 => wpAny (model X.prog X.w) X.A (setFlight e none)
      (fun _ s3 => wpAny (model X.prog X.w) X.A (handleBy e X.env (h1 :: hs)) (SP X pins D) X.xe s3) X.xe s2) X.xe s1) ?caught PassesOwn.looking).run [] s σ H D (I.toTry _) rd) ?through fun _ _ z => z
  case through =>
    intro fl s1 z
    rcases fl with _ | _ | _ | u
    case next =>
      obtain ⟨τ, G, J, g⟩ := z
      exact wpAny_execs_nil ⟨τ, G, J.ofTry okX, g⟩
    case ret =>
      obtain ⟨v, τ, G, J, r, g⟩ := z
      exact ⟨v, τ, G, J.ofTry okX, r, g⟩
    all_goals
      obtain ⟨τ, G, J, g⟩ := z
      exact ⟨τ, G, J.ofTry okX, g⟩
  case caught =>
    rintro u s1 ⟨er, B, sI, pins1, τ, G, C, d, rfl, J0, low, up0, sky, free, os, ag, wish⟩
    have J1 : Inv X pins τ G sI := J0.ofTry okX
    rw [show (X.tr (X.pn ++ pins) _).stack = X.env :: X.outer from stk] at sky
    show wpAny (model X.prog X.w) X.A (noteFrame (.ref er) X.env) _ _ _
    refine Sky.land Zc.steady frames frm sky fun h3 fl3 up3 => ?_
    have up1 := up0.trans up3
    have J3 : Inv X pins τ G { s1 with heap := h3 } := J1.landed low fl3.1 up1 os ag
    obtain ⟨oe, vs, er3, kind3, data3⟩ := fl3.there
    -- the error is no frame of a def that runs
    have noFrame : er ∉ frs (X.env :: X.outer) := fun hm => by
      obtain ⟨_, o2, e2, no⟩ := fl3.2.2.1.mem hm
      cases er3.symm.trans e2
      exact no _ data3
    have notLoc : er ≠ X.env.locals := fun z => noFrame (List.mem_filterMap.mpr ⟨X.env, .head _, frm.trans (congrArg some z.symm)⟩)
    have notFs : er ∉ X.fs := fun hm => by
      obtain ⟨en, hen, q⟩ := List.mem_filterMap.mp hm
      exact noFrame (List.mem_filterMap.mpr ⟨en, .tail _ hen, q⟩)
    have S3 := J3.suite er3 data3 free notLoc notFs
    have look : PySem.W.Looks (model X.prog X.w) h3 (typeOf (.ref er)) C := fun A Q E s k q => wpAny_typeOf_ref (k _ _ er3) (kind3.1.symm ▸ q)
    clear rd
    generalize h1 :: hs = all at cls
    induction cls with
    | nil =>
      refine wpAny_handleBy_nil ?_
      obtain ⟨_, _, _, o2, v2, T, _, _, e2, _, d2, f2, _⟩ := id fl3
      unfold PySem.passOn
      refine wpAny_bind (wpAny_field e2 d2 f2 ?_)
      rw [if_neg (by simp : ¬ ((Value.ref T == Value.none) = true))]
      have out : wpAny (model X.prog X.w) X.A (setFlight (.ref er) X.env.frame)
          (fun _ s4 => wpAny (model X.prog X.w) X.A (throw (.ref er) : Sem Flow) (SP X pins D) X.xe s4) X.xe { s1 with heap := h3 } := by
        rw [frm]
        refine HandSPX.setFlight_upZ fl3 fun h4 fl4 up4 => wpAny_throw (tk _ _ ?_)
        refine ⟨er, B, sI, pins, τ, G, C, d, rfl, J1, low, up1.trans up4, ?_, free, os, ag, wish⟩
        exact .inr (.inr (by rw [stk]; exact fl4))
      first
        | exact wpAny_bind (wpAny_pure (wpAny_bind out))
        | exact wpAny_bind out
    | @cons y m c i f st sts p1 p2 hs2 qs2 slot loc nm su more ih =>
      obtain ⟨b, fits, yes, no⟩ := wish
      refine wpAny_handleBy_cons (codeAny_handlers_test ?_) (by intro q; cases q)
      have there : ∀ {Q E : Value → Shared → Prop}, Q c { s1 with heap := h3 } → wpAny (model X.prog X.w) (X.A.mark (some (.ref er))) (eval (.Name y p1) X.env) Q E { s1 with heap := h3 } := by
        intro Q E q
        rcases nm with ⟨g, dbg, hm | ⟨hm, hv, nn⟩⟩
        · exact ld_glob (X := X.suite er ((er, oe) :: (X.pn ++ pins))) S3 g hm q dbg
        · exact ld_blt (X := X.suite er ((er, oe) :: (X.pn ++ pins))) S3 g hm hv q nn dbg
      refine there ((PySem.W.exm_one (M := model X.prog X.w) J3.kIn look fits).here ?_)
      rcases b with _ | _
      · show wpAny _ X.A (handleBy (.ref er) X.env hs2) _ _ _
        exact ih (no rfl)
      · refine codeAny_handlers_suite_as ?_
        refine HandSPX.lands_againZ fl3 fun h4 fl4 up4 => ?_
        have J4 : Inv X pins τ G { s1 with heap := h4 } := J1.landed low fl4.1 (up1.trans up4) os ag
        obtain ⟨o4, v4, er4, kind4, data4⟩ := fl4.there
        refine store_ok (X := X.suite er ((er, o4) :: (X.pn ++ pins))) (v := .ref er) (J4.suite er4 data4 free notLoc notFs) nd slot (.inl loc) rfl (fun s5 S5 => ?_) (.inr loc)
        refine wpAny_mono ((su er o4 C d (X.pn ++ pins) kind4 ⟨_, data4⟩).run [] s5 _ G _ S5 (yes rfl er free)) ?_ fun _ _ z => z.elim
        intro fw s6 z
        have gone : ∀ {τ6 : L2.St} {G6 : Hp} {R : Shared → Prop}, Inv (X.suite er ((er, o4) :: (X.pn ++ pins))) [] τ6 G6 s6 → (∀ s7, Inv X pins (τ6.set i none) G6 s7 → R s7) →
            wpAny (model X.prog X.w) X.A (do bindName X.env m .none; unbindBehindTheSuite X.env m p2) (fun _ s7 => R s7) X.xe s6 := fun S6 k => gone_ok (S6.unsuite okX) nd slot loc k
        rcases fw with _ | _ | _ | u6
        case next =>
          obtain ⟨τ6, G6, S6, q6⟩ := z
          exact gone S6 fun s7 J7 => ⟨_, _, J7, q6⟩
        case ret =>
          obtain ⟨v6, τ6, G6, S6, r6, q6⟩ := z
          exact gone S6 fun s7 J7 => ⟨_, _, _, J7, r6, q6⟩
        all_goals
          obtain ⟨τ6, G6, S6, q6⟩ := z
          exact gone S6 fun s7 J7 => ⟨_, _, J7, q6⟩

/-! ### calls with keywords and instances made, where what is raised is wished for at the caller's slots -/
def tCallNS (n m : Nat) (sp : Sp) (gV : List V → List V → List V) (E : L2.St → XK) (t tk : TA) : TE := fun σ H Q => t σ H fun vs H1 => tk σ H1 fun zs H2 => vs.length = n ∧ zs.length = m ∧ sp (gV vs zs) H2 Q (E σ)
def tMakeKS (C : Addr) (n m : Nat) (sp : Sp) (gV : List V → List V → List V) (E : L2.St → XK) (t tk : TA) : TE := fun σ H Q => t σ H fun vs H1 => tk σ H1 fun zs H2 => vs.length = n ∧ zs.length = m ∧ ∀ x dx, H2 x = none → H2 dx = none → dx ≠ x →
  sp (gV (.ref x :: vs) zs) (upd (upd H2 dx (.own x)) x (.ins C dx [])) (fun v H3 => v = .non ∧ Q (.ref x) H3) (E σ)
def tMakeDS (C : Addr) (sp : Sp) (dvs : List V) (E : L2.St → XK) (t : TA) : TE := fun σ H Q => t σ H fun vs H1 => ∀ x dx, H1 x = none → H1 dx = none → dx ≠ x →
  sp (.ref x :: (vs ++ dvs)) (upd (upd H1 dx (.own x)) x (.ins C dx [])) (fun v H2 => v = .non ∧ Q (.ref x) H2) (E σ)
section
variable {X : Cx} {CX : CXT} {k n : Nat} {f C : Addr} {fd : FuncData} {ps ks : List Str} {sp : Sp} {E : L2.St → XK} {E1 : XK} {x : Str} {p pos : Pos} {e : Expr} {es : List Expr} {kws : List Keyword} {t tk : TA} {g : List Value → List Value → List Value} {gV : List V → List V → List V} {dvs : List V} {ds : List Value}
theorem run_fnNS {pins : List (Addr × Obj)} {σ : L2.St} {H : Hp} {s : Shared} {Q : VK} {us ws : List Value} {vs zs : List V} (F : FnOk X.prog X.w X.K X.mg X.base CX k f fd ps sp) (hr : Room k X.A) (hb : KBn X.K fd ps n ks g gV) (hx : PassesAt CX X σ E1)
    (I : Inv X pins σ H s) (r : Vals vs us) (rz : Vals zs ws) (l1 : vs.length = n) (l2 : zs.length = ks.length) (h : sp (gV vs zs) H Q E1) : wpAny (model X.prog X.w) X.A (call (.ref f) us (ks.zip ws)) (EP X pins σ Q) X.xe s := by
  have r2 := hb.rel r rz
  refine wpAny_call (codeAny_mono (F.run X.A X.stack s H ⟨us, ks.zip ws⟩ (g us ws) (gV vs zs) Q E1 hr I.env0 (hb.to s us ws I.kIn (r.length.symm.trans l1) (rz.length.symm.trans l2)) r2 h) fun r s' hq => ?_)
  cases r with
  | error e => exact hx pins H s e s' I hq
  | ok fl =>
    cases fl with
    | ret u => exact I.after hq
    | next => exact False.elim hq
    | brk => exact False.elim hq
    | cont => exact False.elim hq
/-- f(e, .., k = v, ..) -/
theorem pe_callNS (F : FnOk X.prog X.w X.K X.mg X.base CX k f fd ps sp) (hr : Room k X.A) (hg : Gl X x) (hm : X.mg x = some (.ref f)) (hk : PySem.W.keepIn X.K (.ref f) = true) (hb : KBn X.K fd ps n ks g gV) (hx : ∀ σ, PassesAt CX X σ (E σ))
    (ha : PA X (e :: es) t) (hkw : PK X kws tk) (hall : (backToKw pos (keywordEach kws X.env)).all (·.1.isSome) = true := by rfl) (hks : (backToKw pos (keywordEach kws X.env)).filterMap (·.1) = ks := by rfl)
    (hdb : (x == ("__debug__" : Str)) = false := by decide) (he : starEach (e :: es) X.env = (false, eval e X.env) :: starEach es X.env := by rfl)
    (hpl : ((backTo pos (starEach (e :: es) X.env)).any (·.1) || (backToKw pos (keywordEach kws X.env)).any (·.1.isNone)) = false := by rfl) :
    PE X (.Call (.Name x p) (e :: es) kws pos) (tCallNS n ks.length sp gV E t tk) := by
  refine ⟨fun pins s σ H Q I h => ?_⟩
  refine wpAny_Call_Name_kw (ld_glob I hg hm ?_ hdb)
  refine PySem.W.callWith_KW (h₀ := X.base) I.ok.mod.kin hk hall (thn (ha.run pos pins s σ H _ I h) fun us s1 ⟨vs, H1, I1, r, q⟩ => ?_) hpl he
  refine thn (hkw.run pos pins s1 σ H1 _ I1 q) fun ws s2 ⟨zs, H2, I2, rz, l1, l2, q2⟩ => ⟨I2.kIn, ?_⟩
  rw [hks]
  exact run_fnNS F hr hb (hx σ) I2 r rz l1 l2 q2
theorem run_makeKS {pins : List (Addr × Obj)} {σ : L2.St} {H : Hp} {s : Shared} {Q : VK} {us ws : List Value} {vs zs : List V} (M : Mk X.K C f) (F : FnOk X.prog X.w X.K X.mg X.base CX k f fd ps sp) (hr : Room (k + 1) X.A) (hb : KBn X.K fd ps (n + 1) ks g gV) (hx : PassesAt CX X σ E1)
    (I : Inv X pins σ H s) (r : Vals vs us) (rz : Vals zs ws) (l1 : vs.length = n) (l2 : zs.length = ks.length)
    (h : ∀ x dx, H x = none → H dx = none → dx ≠ x → sp (gV (.ref x :: vs) zs) (upd (upd H dx (.own x)) x (.ins C dx [])) (fun v H2 => v = .non ∧ Q (.ref x) H2) E1) :
    wpAny (model X.prog X.w) X.A (call (.ref C) us (ks.zip ws)) (EP X pins σ Q) X.xe s := by
  have hq := h (s.heap.objs.size + 1) s.heap.objs.size (I.hok.fresh (Nat.le_succ _)) (I.hok.fresh (Nat.le_refl _)) (Nat.ne_of_lt (Nat.lt_succ_self _))
  have I2 := Inv.made (C := C) I
  have r1 : Vals (V.ref (s.heap.objs.size + 1) :: vs) (Value.ref (s.heap.objs.size + 1) :: us) := .cons rfl r
  have r2 := hb.rel r1 rz
  have n1 : (Value.ref (s.heap.objs.size + 1) :: us).length = n + 1 := by
    rw [List.length_cons, ← r.length, l1]
  refine wpAny_call (make_map (f := f) I.kIn M.makes M.init (beq_iff_eq.mp M.fn) (codeAny_mono (F.run _ X.stack _ _ ⟨Value.ref (s.heap.objs.size + 1) :: us, ks.zip ws⟩ (g (Value.ref (s.heap.objs.size + 1) :: us) ws) _ _ E1 (hr.make C us (ks.zip ws))
    (I2.env0.make C us (ks.zip ws)) (hb.to _ (Value.ref (s.heap.objs.size + 1) :: us) ws I2.kIn n1 (rz.length.symm.trans l2)) r2 hq) fun r s' hq' => ?_))
  cases r with
  | error e => exact hx pins _ _ e s' I2 hq'
  | ok fl =>
    cases fl with
    | ret u =>
      obtain ⟨v, H', I3, rv, ev, q3⟩ := I2.after hq'
      subst ev
      exact ⟨rv, ⟨V.ref (s.heap.objs.size + 1), H', I3, rfl, q3⟩⟩
    | next => exact False.elim hq'
    | brk => exact False.elim hq'
    | cont => exact False.elim hq'
/-- C(e, .., k = v, ..) -/
theorem pe_makeKS (M : Mk X.K C f) (F : FnOk X.prog X.w X.K X.mg X.base CX k f fd ps sp) (hr : Room (k + 1) X.A) (hg : Gl X x) (hm : X.mg x = some (.ref C)) (hb : KBn X.K fd ps (n + 1) ks g gV) (hx : ∀ σ, PassesAt CX X σ (E σ)) (ha : PA X (e :: es) t) (hkw : PK X kws tk)
    (hall : (backToKw pos (keywordEach kws X.env)).all (·.1.isSome) = true := by rfl) (hks : (backToKw pos (keywordEach kws X.env)).filterMap (·.1) = ks := by rfl) (hdb : (x == ("__debug__" : Str)) = false := by decide)
    (he : starEach (e :: es) X.env = (false, eval e X.env) :: starEach es X.env := by rfl) (hpl : ((backTo pos (starEach (e :: es) X.env)).any (·.1) || (backToKw pos (keywordEach kws X.env)).any (·.1.isNone)) = false := by rfl) :
    PE X (.Call (.Name x p) (e :: es) kws pos) (tMakeKS C n ks.length sp gV E t tk) := by
  refine ⟨fun pins s σ H Q I h => ?_⟩
  refine wpAny_Call_Name_kw (ld_glob I hg hm ?_ hdb)
  refine PySem.W.callWith_KW (h₀ := X.base) I.ok.mod.kin M.kp hall (thn (ha.run pos pins s σ H _ I h) fun us s1 ⟨vs, H1, I1, r, q⟩ => ?_) hpl he
  refine thn (hkw.run pos pins s1 σ H1 _ I1 q) fun ws s2 ⟨zs, H2, I2, rz, l1, l2, q2⟩ => ⟨I2.kIn, ?_⟩
  rw [hks]
  exact run_makeKS M F hr hb (hx σ) I2 r rz l1 l2 q2
theorem run_makeDS {pins : List (Addr × Obj)} {σ : L2.St} {H : Hp} {s : Shared} {Q : VK} {us : List Value} {vs : List V} (M : Mk X.K C f) (F : FnOk X.prog X.w X.K X.mg X.base CX k f fd ps sp) (hr : Room (k + 1) X.A) (hb : Binds X.K fd ps ds) (hd : Vals dvs ds)
    (hx : PassesAt CX X σ E1) (I : Inv X pins σ H s) (r : Vals vs us)
    (h : ∀ x dx, H x = none → H dx = none → dx ≠ x → sp (.ref x :: (vs ++ dvs)) (upd (upd H dx (.own x)) x (.ins C dx [])) (fun v H2 => v = .non ∧ Q (.ref x) H2) E1) :
    wpAny (model X.prog X.w) X.A (call (.ref C) us) (EP X pins σ Q) X.xe s := by
  have hq := h (s.heap.objs.size + 1) s.heap.objs.size (I.hok.fresh (Nat.le_succ _)) (I.hok.fresh (Nat.le_refl _)) (Nat.ne_of_lt (Nat.lt_succ_self _))
  have I2 := Inv.made (C := C) I
  have r2 : Vals (V.ref (s.heap.objs.size + 1) :: (vs ++ dvs)) (Value.ref (s.heap.objs.size + 1) :: (us ++ ds)) := .cons rfl (r.append hd)
  have hl : (Value.ref (s.heap.objs.size + 1) :: us ++ ds).length = ps.length := by
    have e := r2.length
    rw [F.len _ _ _ _ hq] at e
    exact e.symm
  refine wpAny_call (make_map (f := f) I.kIn M.makes M.init (beq_iff_eq.mp M.fn) (codeAny_mono (F.run _ X.stack _ _ ⟨Value.ref (s.heap.objs.size + 1) :: us, []⟩ (Value.ref (s.heap.objs.size + 1) :: (us ++ ds)) _ _ E1 (hr.make C us [])
    (I2.env0.make C us []) (hb _ (Value.ref (s.heap.objs.size + 1) :: us) I2.kIn hl) r2 hq) fun r s' hq' => ?_))
  cases r with
  | error e => exact hx pins _ _ e s' I2 hq'
  | ok fl =>
    cases fl with
    | ret u =>
      obtain ⟨v, H', I3, rv, ev, q3⟩ := I2.after hq'
      subst ev
      exact ⟨rv, ⟨V.ref (s.heap.objs.size + 1), H', I3, rfl, q3⟩⟩
    | next => exact False.elim hq'
    | brk => exact False.elim hq'
    | cont => exact False.elim hq'
/-- C(e, ..), the rest by defaults -/
theorem pe_makeDS (M : Mk X.K C f) (F : FnOk X.prog X.w X.K X.mg X.base CX k f fd ps sp) (hr : Room (k + 1) X.A) (hg : Gl X x) (hm : X.mg x = some (.ref C)) (hb : Binds X.K fd ps ds) (hd : Vals dvs ds) (hx : ∀ σ, PassesAt CX X σ (E σ))
    (ha : PA X (e :: es) t) (hdb : (x == ("__debug__" : Str)) = false := by decide) (he : starEach (e :: es) X.env = (false, eval e X.env) :: starEach es X.env := by rfl) (hpl : (backTo pos (starEach es X.env)).any (·.1) = false := by rfl) :
    PE X (.Call (.Name x p) (e :: es) [] pos) (tMakeDS C sp dvs E t) := by
  refine ⟨fun pins s σ H Q I h => ?_⟩
  refine wpAny_Call_Name_kw (ld_glob I hg hm ?_ hdb)
  refine PySem.W.callWith_K (h₀ := X.base) I.ok.mod.kin M.kp (thn (ha.run pos pins s σ H _ I h) fun us s1 ⟨vs, H1, I1, r, q⟩ => ⟨I1.kIn, ?_⟩) he hpl
  exact run_makeDS M F hr hb hd (hx σ) I1 r q
end
/-! readings -/
section
variable {σ : L2.St} {H : Hp} {Q : VK} {n m : Nat} {sp : Sp} {gV : List V → List V → List V} {E : L2.St → XK} {t tk : TA} {C : Addr} {dvs : List V} {K : PySem.W.Frag}
theorem c_callNS (h : t σ H fun vs H1 => tk σ H1 fun zs H2 => vs.length = n ∧ zs.length = m ∧ sp (gV vs zs) H2 Q (E σ)) : tCallNS n m sp gV E t tk σ H Q := h
theorem c_callSD (h : t σ H fun vs H1 => sp (vs ++ dvs) H1 Q (E σ)) : tCallSD sp dvs E t σ H Q := h
theorem c_makeKS (h : t σ H fun vs H1 => tk σ H1 fun zs H2 => vs.length = n ∧ zs.length = m ∧ ∀ x dx, H2 x = none → H2 dx = none → dx ≠ x →
  sp (gV (.ref x :: vs) zs) (upd (upd H2 dx (.own x)) x (.ins C dx [])) (fun v H3 => v = .non ∧ Q (.ref x) H3) (E σ)) : tMakeKS C n m sp gV E t tk σ H Q := h
theorem c_makeDS (h : t σ H fun vs H1 => ∀ x dx, H1 x = none → H1 dx = none → dx ≠ x →
  sp (.ref x :: (vs ++ dvs)) (upd (upd H1 dx (.own x)) x (.ins C dx [])) (fun v H2 => v = .non ∧ Q (.ref x) H2) (E σ)) : tMakeDS C sp dvs E t σ H Q := h
theorem c_slot {ta : TE} {f : Str} (h : ta σ H fun x H1 => ∃ a C dx p vs i v, x = .ref a ∧ SlX.Slt H1 a C dx vs ∧ SlX.SCls K C ∧ SlX.Slot1 K C f p i ∧ vs[i]? = some (some v) ∧ Q v H1) : SlX.tSl K ta f σ H Q := h
theorem c_sslot {ta tv : TE} {f : Str} {D : Ends} (h : tv σ H fun y H1 => ta σ H1 fun x H2 => ∃ a C dx p vs i, x = .ref a ∧ SlX.Slt H2 a C dx vs ∧ SlX.SCls K C ∧ SlX.Slot1 K C f p i ∧ D.nx σ (SlX.slH H2 a C dx (SlX.putS i y vs))) : SlX.sSl K ta tv f D σ H := h
end
theorem pass0At {X : Cx} (σ : L2.St) : PassesAt CX0 X σ E0 := fun pins H s e s' I h => pass0 pins σ H s e s' I h
theorem passFAt {X : Cx} (σ : L2.St) : PassesAt (L2.CX X.prog X.w) X σ E0 := fun pins H s e s' I h => passF pins σ H s e s' I h
theorem c_cval {K : PySem.W.Frag} {σ : L2.St} {H : Hp} {Q : VK} {ta : TE} {f : Str} (h : ta σ H fun x H1 => ∃ C mc v u, x = .ref C ∧ ClX.CRead K C mc ∧ ClX.CVal K C mc f v u ∧ Q v H1) : ClX.tCVal K ta f σ H Q := h
theorem Slt_same {H H' : Hp} {a C dx : Addr} {vs : List (Option V)} (h : SlX.Slt H a C dx vs) (s : Same H H') : SlX.Slt H' a C dx vs := by
  rcases h with ⟨h1, h2⟩ | ⟨h1, h2⟩
  · exact .inl ⟨s _ _ h1, h2⟩
  · exact .inr ⟨s _ _ h1, s _ _ h2⟩
section
variable {X : Cx} {pn : List (Addr × Obj)} {xe : Value → Shared → Prop}
theorem ix_listT : IxR (X.tr pn xe) (rIxL X.K) := ix_list
theorem ix_tupT : IxR (X.tr pn xe) (rIxT X.K) := ix_tup
end
/-! ### errors without a field -/
def rIsN (K : PySem.W.Frag) (D a : Addr) (cls : Value) (d : Option Addr) : List V → Hp → VK → Prop := fun xs H Q => cls = .ref D ∧ d = none ∧ ∃ (c : V) (cv : Value) (b : Bool), xs = [.ref a, c] ∧ (∀ u, RelV c u → u = cv) ∧ PySem.W.kitOne K (.ref D) cv = some b ∧ Q (.bl b) H
theorem call_isN {X : Cx} {a D : Addr} {oe : Obj} {cls : Value} {d : Option Addr} {pn : List (Addr × Obj)} (C : L2.ExcC X.K D) (hz : Zc cls d oe) (hf : ∃ vs, oe.data = .fields vs) : CallR (X.suite a ((a, oe) :: pn)) (.builtin "isinstance") (rIsN X.K D a cls d) := fun pins s σ H xs us Q I r h => by
  obtain ⟨e1, e2, h⟩ := h
  subst e1 e2
  exact call_isE C hz hf pins s σ H xs us Q I r h
theorem kit_val {K : PySem.W.Frag} {C : Addr} (h : PySem.W.subIn K (.ref C) (.type "ValueError") = some true) : PySem.W.kitOne K (.ref C) (.type "ValueError") = some true := by
  have e : PySem.W.kitCls K (.ref C) (.type "ValueError") = some true := h
  unfold PySem.W.kitOne
  rw [if_neg (by intro q; cases (beq_iff_eq.mp q)), e]

end Y
/-! ### x in o, o an instance with an own __contains__ -/
namespace CtX
open PySem PySem.Spec PyProof.Rows L2
section
variable {prog : Program} {w : World} {A : Around} {E : Value → Shared → Prop} {s : Shared} {K : PySem.W.Frag} {x C f : Addr} {ox : Obj} {od : Option Obj}
theorem contains_own {v : Value} {Q : Bool → Shared → Prop} (X : K.In s.heap) (I : PySem.W.InstAt s.heap x ox C od) (hs : PySem.W.findIn K (.ref C) "__contains__" = some (some (.ref f))) (hf : PySem.W.typeIn K (.ref f) = some (.type "function"))
    (h : wpAny (model prog w) A (call (.ref f) [.ref x, v]) (fun r s' => ∃ b, r = .bool b ∧ Q b s') E s) : wpAny (model prog w) A (contains (.ref x) v) Q E s := by
  unfold contains
  refine wpAny_holding ?_
  show wpAny _ _ (specialOf (.ref x) "__contains__" >>= _) _ _ _
  refine wpAny_bind (wpAny_bind (I.type.here ((PySem.W.looks_findIn X hs).here ?_)))
  show wpAny _ _ (if (some (Value.ref f) == some Value.none) = true then _ else _) _ _ _
  rw [if_neg (by intro q; cases (beq_iff_eq.mp q))]
  show wpAny _ _ (callSpecialUnlessNone? (.ref x) "__contains__" [v] _ >>= _) _ _ _
  refine wpAny_bind ?_
  unfold callSpecialUnlessNone?
  refine wpAny_bind (wpAny_bind (I.type.here ((PySem.W.looks_findIn X hs).here ?_)))
  refine wpAny_holding ?_
  refine wpAny_bind ((PySem.W.bind_fn X _ hf).here ?_)
  show wpAny _ _ (if (Value.ref f == Value.none) = true then _ else _) _ _ _
  rw [if_neg (by intro q; cases (beq_iff_eq.mp q))]
  refine wpAny_bind (wpAny_mono h (fun r s' hr => ?_) fun _ _ z => z)
  obtain ⟨b, rfl, q⟩ := hr
  refine wpAny_pure ?_
  show wpAny _ _ (truthy (.bool b)) _ _ _
  exact wpAny_pure q
end
end CtX
namespace Y
open PySem PySem.Spec PyProof.Rows L2 CtX

/-! ### methods of instances with slots, where what is raised is wished for at the caller's slots -/
theorem fnr_of {P : Program} {w : World} {K : PySem.W.Frag} {mg : Str → Option Value} {base : Heap} {CX : CXT} {k : Nat} {f : Addr} {fd : FuncData} {ps : List Str} {sp : Sp} (F : FnOk P w K mg base CX k f fd ps sp) (hb : Binds K fd ps []) : FnR P w K mg base CX k f sp :=
  (FnOk.raw F hb .nil).imp fun vs H Q E h => by rw [List.append_nil]; exact h
theorem run_fnRS {X : Cx} {pins : List (Addr × Obj)} {σ : L2.St} {H : Hp} {s : Shared} {CX : CXT} {k : Nat} {f : Addr} {sp : Sp} {E : XK} {Q : VK} {us : List Value} {vs : List V} (F : FnR X.prog X.w X.K X.mg X.base CX k f sp) (hr : Room k X.A) (hx : PassesAt CX X σ E) (I : Inv X pins σ H s) (r : Vals vs us) (h : sp vs H Q E) :
    codeAny (model X.prog X.w) X.A (.call (.ref f) ⟨us, []⟩) (fun r s' => match r with | .ok (.ret v) => EP X pins σ Q v s' | .ok _ => False | .error e => X.xe e s') s := by
  refine codeAny_mono (F X.A X.stack s H us vs Q E hr I.env0 r h) fun r s' hq => ?_
  cases r with
  | error e => exact hx pins H s e s' I hq
  | ok fl =>
    cases fl with
    | ret u => exact I.after hq
    | next => exact False.elim hq
    | brk => exact False.elim hq
    | cont => exact False.elim hq
/-- o.m(e, ..) -/
def tMethS (C : Addr) (sp : Sp) (E : L2.St → XK) (ta : TE) (t : TA) : TE := fun σ H Q => ta σ H fun x H1 => ∃ a dx vs, x = .ref a ∧ SlX.Slt H1 a C dx vs ∧ t σ H1 fun ws H2 => sp (x :: ws) H2 Q (E σ)
/-- x in o -/
def rInOwn (C : Addr) (sp : Sp) (E : XK) (neg : Bool) : R2 := fun x y H Q => ∃ a dx vs, y = .ref a ∧ SlX.Slt H a C dx vs ∧ sp [y, x] H (fun z H' => ∃ b, z = .bl b ∧ Q (.bl (if neg = true then !b else b)) H') E
section
variable {X : Cx} {CX : CXT} {k : Nat} {C g : Addr} {sp : Sp} {E : L2.St → XK} {E1 : XK} {o e : Expr} {es : List Expr} {m : Str} {pos apos : Pos} {ta : TE} {t : TA}
theorem pe_methS {pl : Sem Bool} (he : PE X o ta) (c : SlX.SCls X.K C) (hm : Meth X.K C m g) (F : FnR X.prog X.w X.K X.mg X.base CX k g sp) (hr : Room k X.A) (hx : ∀ σ, PassesAt CX X σ (E σ)) (ha : PA X (e :: es) t)
    (hst : starEach (e :: es) X.env = (false, eval e X.env) :: starEach es X.env := by rfl) (hpl : (backTo pos (starEach es X.env)).any (·.1) = false := by rfl)
    (ht : eval (.Call (.Attribute o m apos) (e :: es) [] pos) X.env = (do
      let ov ← eval o X.env
      standAt apos.atName
      let (f, first) ← holding [ov] (getMethod ov m pl)
      callWith pos f first (backTo pos (starEach (e :: es) X.env)) (backToKw pos (keywordEach [] X.env))) := by rfl) :
    PE X (.Call (.Attribute o m apos) (e :: es) [] pos) (tMethS C sp E ta t) := by
  refine ⟨fun pins s σ H Q I h => ?_⟩
  refine PySem.W.methodCall_KW (pl := pl) (thn (he.run pins s σ H _ I h) fun u s1 ⟨x, H1, I1, rx, a, dx, vs, ex, hsl, q⟩ => ?_) ht
  subst ex
  obtain rfl : u = Value.ref a := rx
  refine SlX.getmethsl_ok I1 hsl c hm ?_
  refine PySem.W.callWith_K (first := [.ref a]) (h₀ := X.base) I.ok.mod.kin hm.kp (thn (ha.run pos pins s1 σ H1 _ I1 q) fun us s2 ⟨ws, H2, I2, r, q2⟩ => ⟨I2.kIn, ?_⟩) hst hpl
  exact wpAny_call (run_fnRS (us := .ref a :: us) (vs := .ref a :: ws) F hr (hx σ) I2 (.cons rfl r) q2)
theorem pe_methS0 {pl : Sem Bool} (he : PE X o ta) (c : SlX.SCls X.K C) (hm : Meth X.K C m g) (F : FnR X.prog X.w X.K X.mg X.base CX k g sp) (hr : Room k X.A) (hx : ∀ σ, PassesAt CX X σ (E σ))
    (ht : eval (.Call (.Attribute o m apos) [] [] pos) X.env = (do
      let ov ← eval o X.env
      standAt apos.atName
      let (f, first) ← holding [ov] (getMethod ov m pl)
      callWith pos f first (backTo pos (starEach [] X.env)) (backToKw pos (keywordEach [] X.env))) := by rfl) :
    PE X (.Call (.Attribute o m apos) [] [] pos) (tMethS C sp E ta tNil) := by
  refine ⟨fun pins s σ H Q I h => ?_⟩
  refine PySem.W.methodCall_KW (pl := pl) (thn (he.run pins s σ H _ I h) fun u s1 ⟨x, H1, I1, rx, a, dx, vs, ex, hsl, q⟩ => ?_) ht
  subst ex
  obtain rfl : u = Value.ref a := rx
  refine SlX.getmethsl_ok I1 hsl c hm ?_
  exact PySem.W.callWith_K0 (first := [.ref a]) I1.kIn hm.kp (wpAny_call (run_fnRS (us := [.ref a]) (vs := [.ref a]) F hr (hx σ) I1 (.cons rfl .nil) q))
theorem op_inSl (hm : Meth X.K C "__contains__" g) (F : FnR X.prog X.w X.K X.mg X.base CX k g sp) (hr : Room k X.A) (hx : Passes CX X E1) : OpR X (compareOp .In) (rInOwn C sp E1 false) := by
  intro pins s σ H x y v u Q I rx ry h
  obtain ⟨a, dx, vs, rfl, ha, q⟩ := h
  obtain rfl : u = Value.ref a := ry
  obtain ⟨sl, od, _, J, _⟩ := SlX.slt_inst I ha
  show wpAny _ _ (contains (.ref a) v >>= fun b => (pure (Value.bool b) : Sem Value)) _ _ _
  refine wpAny_bind (CtX.contains_own I.kIn J hm.at_ (beq_iff_eq.mp hm.fn) (wpAny_mono (wpAny_call (run_fnR (us := [.ref a, v]) (vs := [.ref a, x]) F hr hx I (.cons rfl (.cons rx .nil)) q)) (fun w s' z => ?_) fun _ _ x => x))
  obtain ⟨z', H', I', rz, b, ez, qz⟩ := z
  subst ez
  obtain rfl : w = Value.bool b := rz
  exact ⟨b, rfl, wpAny_pure ⟨.bl b, H', I', rfl, qz⟩⟩
theorem op_notInSl (hm : Meth X.K C "__contains__" g) (F : FnR X.prog X.w X.K X.mg X.base CX k g sp) (hr : Room k X.A) (hx : Passes CX X E1) : OpR X (compareOp .NotIn) (rInOwn C sp E1 true) := by
  intro pins s σ H x y v u Q I rx ry h
  obtain ⟨a, dx, vs, rfl, ha, q⟩ := h
  obtain rfl : u = Value.ref a := ry
  obtain ⟨sl, od, _, J, _⟩ := SlX.slt_inst I ha
  show wpAny _ _ (contains (.ref a) v >>= fun b => (pure (Value.bool (!b)) : Sem Value)) _ _ _
  refine wpAny_bind (CtX.contains_own I.kIn J hm.at_ (beq_iff_eq.mp hm.fn) (wpAny_mono (wpAny_call (run_fnR (us := [.ref a, v]) (vs := [.ref a, x]) F hr hx I (.cons rfl (.cons rx .nil)) q)) (fun w s' z => ?_) fun _ _ x => x))
  obtain ⟨z', H', I', rz, b, ez, qz⟩ := z
  subst ez
  obtain rfl : w = Value.bool b := rz
  exact ⟨b, rfl, wpAny_pure ⟨.bl (!b), H', I', rfl, qz⟩⟩
end
section
variable {σ : L2.St} {H : Hp} {Q : VK} {sp : Sp} {E : L2.St → XK} {E1 : XK} {t : TA} {C : Addr} {ta : TE} {x y : V}
theorem c_methS (h : ta σ H fun x H1 => ∃ a dx vs, x = .ref a ∧ SlX.Slt H1 a C dx vs ∧ t σ H1 fun ws H2 => sp (x :: ws) H2 Q (E σ)) : tMethS C sp E ta t σ H Q := h
theorem c_propSl (h : ta σ H fun x H1 => ∃ a dx vs, x = .ref a ∧ SlX.Slt H1 a C dx vs ∧ sp [.ref a] H1 Q E1) : SlX.tPropSl C sp E1 ta σ H Q := h
theorem r_inOwn {neg : Bool} (h : ∃ a dx vs, y = .ref a ∧ SlX.Slt H a C dx vs ∧ sp [y, x] H (fun z H' => ∃ b, z = .bl b ∧ Q (.bl (if neg = true then !b else b)) H') E1) : rInOwn C sp E1 neg x y H Q := h
end
section
variable {X : Cx} {s : Shared} {H : Hp} {scope : Scope} {e : Env} {fp : List Addr} {o : Expr} {ta : TE} {f : Str} {pos : Pos}
theorem pe_slB (he : PE (X.blk s H scope e fp) o ta) (hb : attributeBase o f (X.blk s H scope e fp).env (eval o (X.blk s H scope e fp).env) = eval o (X.blk s H scope e fp).env := by rfl) : PE (X.blk s H scope e fp) (.Attribute o f pos) (SlX.tSl X.K ta f) := SlX.pe_sl he hb
end

/-! ### 'x' * k, a text of one sign -/
def rRepS : R2 := fun x y H Q => ∃ (a : Str) (k : Int), x = .str a ∧ y = .int k ∧ a.length = 1 ∧ 1 ≤ k ∧ k ≤ 1000 ∧ ∀ z : Str, Q (.str z) H
theorem fold_size (c : Array Nat) : ∀ (n : Nat) (acc : Array Nat), ((List.replicate n c).foldl (· ++ ·) acc).size = acc.size + n * c.size
  | 0, acc => by simp
  | n + 1, acc => by
    rw [List.replicate_succ, List.foldl_cons, fold_size c n, Array.size_append, Nat.add_mul]
    omega
theorem op_repS {X : Cx} : OpR X (binaryOp .Mult) rRepS := by
  intro pins s σ H x y v u Q I rx ry h
  obtain ⟨a, k, rfl, rfl, h1, k1, k2, q⟩ := h
  obtain ⟨t, rfl⟩ := rx
  obtain ⟨tk, rfl⟩ := ry
  refine P.mul_str ?_ (fun _ _ => ?_) (fun _ _ => ?_) ?_
  · rw [decide_eq_false (by omega), decide_eq_false (by omega)]
    rfl
  · rw [h1]
    have : 1 ≤ (2 ^ 63 - 1) / k := (Int.le_ediv_iff_mul_le (by omega)).mpr (by omega)
    omega
  · rw [h1]
    exact decide_eq_false (Nat.not_lt.mpr (Nat.le_trans (show 1 * k.toNat ≤ 1000 by omega) (by decide)))
  · rw [if_neg (by omega)]
    split
    · exact ⟨.str a, H, I, ⟨_, rfl⟩, q a⟩
    · refine ⟨Nat.le_trans (m := 1000) ?_ (by decide), .str _, H, I.tok _, ⟨_, rfl⟩, q _⟩
      have h1' : a.cps.size = 1 := h1
      show Array.size _ ≤ 1000
      rw [fold_size, h1']
      simp
      omega

/-! ### t * k, also by 1 (then t itself) -/
theorem mul_one (l : Addr) (its : Array Value) (n : Nat) (dd : Option Addr) (sl : Array (Option Value)) (u : Tok) :
    Meets (Builtin.«tuple.__mul__» ⟨[.ref l, .int 1 u], []⟩) (fun _ R s => s.heap.get? l = some { cls := .type "tuple", dict := dd, data := .seq its n, slots := sl } ∧ R (.ok (.ret (Value.ref l))) s) :=
  .of_wp fun prog w A R s h => by
    obtain ⟨hp, g, d, tk, os⟩ := s
    obtain ⟨there, h⟩ := h
    have f1 := AutoSeq1.idx_int
    wp_walk using wpAny_loadPart' there
    exact ⟨_, rfl, h⟩
def rRepTA (K : PySem.W.Frag) : R2 := fun x y H Q => ∃ (l : Addr) (k : Int) (xs : List V), x = .ref l ∧ y = .int k ∧ SqT K H l xs ∧ xs ≠ [] ∧ 1 ≤ k ∧ k ≤ 1000 ∧ xs.length ≤ 1000 ∧ (k = 1 → Q (.ref l) H) ∧ (2 ≤ k → ∀ p, H p = none → Q (.ref p) (upd H p (.tup (List.replicate k.toNat xs).flatten)))
theorem op_repTA {X : Cx} : OpR X (binaryOp .Mult) (rRepTA X.K) := by
  intro pins s σ H x y v u Q I rx ry h
  obtain ⟨l, k, xs, rfl, rfl, there, hne, k1, k2, hz, q1, q2⟩ := h
  by_cases one : k = 1
  · subst one
    cases rx
    obtain ⟨tk, rfl⟩ := ry
    obtain ⟨items, vals, ⟨⟨cl, dd, body, slots⟩, got, isT, num, isS⟩, few⟩ := I.tuple there
    dsimp only at isT isS
    subst isT isS
    have tT : s.TypeIs (.ref l) "tuple" := ⟨_, got, rfl⟩
    have tI := typeIs_int s 1 tk
    have left := int_rmul_tuple 1 tk l items.toArray num dd slots
    have right := call_meets (prog := X.prog) (w := X.w) (A := X.A) (E := X.xe) (Q := EP X pins σ Q) PySem.F.slot_tuple_mul tT PySem.F.entry_tuple_mul (PySem.F.args_tuple_mul_2 _ _) (mul_one l items.toArray num dd slots tk) ⟨got, ⟨.ref l, H, I, rfl, q1 rfl⟩⟩
    refine wpAny_binaryOp_repeat_ref (U := "int") (T := "tuple") (by decide) tT (fun z => typeIs_int z 1 tk) noFill_tuple_mul PySem.F.fills_int_mul PySem.F.slot_int_rmul repeat_tuple PySem.F.slot_int_index.lookup ?_
    exact call_meets PySem.F.slot_int_rmul tI PySem.F.entry_int_rmul (PySem.F.args_int_rmul_2 _ _) left ⟨got, rfl, tT, right⟩
  · exact op_repT pins s σ H _ _ v u Q I rx ry ⟨l, k, xs, rfl, rfl, there, hne, by omega, k2, hz, q2 (by omega)⟩

/-! ### t * k, k at most 0 -/
theorem tuple_mul0 (l : Addr) (items : Array Value) (n : Nat) (dd : Option Addr) (sl : Array (Option Value)) (x : Int) (u : Tok) (c0 : (decide (x < -(2 ^ 63)) || decide (x ≥ 2 ^ 63)) = false) (c1 : (items.isEmpty || x == 1) = false) (c2 : (decide (x ≤ 0) || items.isEmpty) = true) :
    Meets (Builtin.«tuple.__mul__» ⟨[.ref l, .int x u], []⟩) (fun _ R s => s.heap.get? l = some { cls := .type "tuple", dict := dd, data := .seq items n, slots := sl } ∧
      R (.ok (.ret (Value.ref s.heap.objs.size))) { s with heap := s.heap.push { cls := Value.type "tuple", data := Data.seq #[] }, toks := s.toks }) :=
  .of_wp fun prog w A R s h => by
    obtain ⟨hp, g, d, tk, os⟩ := s
    obtain ⟨hl, h⟩ := h
    have f1 := AutoSeq1.idx_int
    wp_walk using wpAny_loadPart' hl
    repeat (first
      | (refine wpAny_ite_false (decide_eq_false (by rw [c0]; exact Bool.false_ne_true)) ?_; wp_walk using wpAny_loadPart' hl)
      | (refine wpAny_ite_false (decide_eq_false (by rw [c1]; exact Bool.false_ne_true)) ?_; wp_walk using wpAny_loadPart' hl)
      | (refine wpAny_ite_true (decide_eq_true c2) ?_; wp_walk using wpAny_loadPart' hl))
    exact ⟨_, rfl, h⟩
def rRepT0 (K : PySem.W.Frag) : R2 := fun x y H Q => ∃ (l : Addr) (k : Int) (xs : List V), x = .ref l ∧ y = .int k ∧ SqT K H l xs ∧ xs ≠ [] ∧ -1000 ≤ k ∧ k ≤ 0 ∧ ∀ p, H p = none → Q (.ref p) (upd H p (.tup []))
theorem op_repT0 {X : Cx} : OpR X (binaryOp .Mult) (rRepT0 X.K) := by
  intro pins s σ H x y v u Q I rx ry h
  obtain ⟨l, k, xs, rfl, rfl, hT, hne, h1, h2, q⟩ := h
  cases rx
  obtain ⟨t, rfl⟩ := ry
  obtain ⟨its, r, ⟨⟨cls, dd, data, sl⟩, ho, hc, n, hd⟩, hs⟩ := I.tuple hT
  simp only at hc hd
  subst hc hd
  have hle : its.length = xs.length := r.length.symm
  have hn : its ≠ [] := fun e => hne (by
    rw [e] at hle
    exact List.eq_nil_of_length_eq_zero hle.symm)
  have hi : its.toArray.isEmpty = false := by
    cases its with
    | nil => exact absurd rfl hn
    | cons a b => rfl
  have c0 : (decide (k < -(2 ^ 63)) || decide (k ≥ 2 ^ 63)) = false := by
    rw [decide_eq_false (by omega), decide_eq_false (by omega)] <;> rfl
  have c1 : (its.toArray.isEmpty || k == 1) = false := by
    rw [hi, Bool.false_or]
    exact beq_eq_false_iff_ne.mpr (by omega)
  have c2 : (decide (k ≤ 0) || its.toArray.isEmpty) = true := by
    rw [decide_eq_true h2, Bool.true_or]
  refine wpAny_binaryOp_repeat_ref (T := "tuple") (U := "int") (by decide) ⟨_, ho, rfl⟩ (fun s' => typeIs_int s' k t) noFill_tuple_mul F.fills_int_mul F.slot_int_rmul repeat_tuple F.slot_int_index.lookup
    (call_meets F.slot_int_rmul (typeIs_int s k t) F.entry_int_rmul (F.args_int_rmul_2 _ _) (int_rmul_tuple k t l its.toArray n dd sl)
      ⟨ho, rfl, ⟨_, ho, rfl⟩, call_meets F.slot_tuple_mul ⟨_, ho, rfl⟩ F.entry_tuple_mul (F.args_tuple_mul_2 _ _) (tuple_mul0 l its.toArray n dd sl k t c0 c1 c2) ⟨ho, ?_⟩⟩)
  refine ⟨.ref s.heap.objs.size, _, I.laid (t' := s.toks) (o := .tup []) (fun b ob q => Heap.get?_push_of_some _ q) (Nat.le_refl _) ?_, rfl, q _ (I.hok.fresh (Nat.le_refl _))⟩
  exact ⟨Nat.zero_le _, [], .nil, IsTup.new _ _⟩

/-! ### set(xs) of a list of ints -/
section
variable {P : Program} {w : World} {A : Around} {E : Value → Shared → Prop} {s : Shared}
abbrev emptySet (w : World) : Obj := { cls := .type "set", dict := none, data := .set #[] 0 (.fresh 0 0 (!w.params.followText "set-order")) }
theorem vals_at {zs : List Int} {items : Array Value} (h : IntsAre items.toList zs) (i : Nat) (v : Value) (e : items[i]? = some v) : ∃ k t, zs[i]? = some k ∧ v = .int k t := by
  have hl := IntsAre.length h
  rw [Array.length_toList] at hl
  have hi : i < zs.length := by
    have q := (Array.getElem?_eq_some_iff.mp e).1
    omega
  obtain ⟨t, z⟩ := PyProof.Rows.IntsAre.int_at h i v (by rw [Array.getElem?_toList]; exact e)
  refine ⟨zs[i], t, List.getElem?_eq_getElem hi, z.trans ?_⟩
  rw [List.getD_eq_getElem?_getD, List.getElem?_eq_getElem hi]
  rfl
/-- what the update leaves -/
def Made (w : World) (s : Shared) (zs : List Int) (r : Value) (s2 : Shared) : Prop := r = .none ∧ ∃ (h2 : Heap) (tk c : Nat), s2 = { s with heap := h2, toks := tk } ∧ SetR w h2 s.heap.objs.size (fun j => decide (j ∈ zs)) c ∧ c ≤ zs.length ∧ ∀ b o, s.heap.get? b = some o → h2.get? b = some o
theorem init_from {l : Addr} {items : Array Value} (zs : List Int) (calm : A.handled = none) (there : s.heap.IsList l items) (its : IntsAre items.toList zs) (room : zs.length + 1 < scanBound) :
    codeAny (model P w) A (.call (.builtin "set.__init__") ⟨[.ref s.heap.objs.size, .ref l], []⟩) (wants (Made w s zs) E) { s with heap := s.heap.push (emptySet w) } := by
  have same : items.size = zs.length := by
    have q := IntsAre.length its
    rwa [Array.length_toList] at q
  have hS : (s.heap.push (emptySet w)).get? s.heap.objs.size = some (emptySet w) := Heap.get?_push_size _ rfl
  have hT : Shared.TypeIs { s with heap := s.heap.push (emptySet w) } (.ref s.heap.objs.size) "set" := ⟨_, hS, rfl⟩
  refine codeAny_call_builtin F.called_set.init.plain F.entry_set_init (check_set_init_1 hT ?_)
  obtain ⟨⟨c0, d0, b0, s0⟩, got, isL, num, isS⟩ := there
  dsimp only at isL isS
  subst isL isS
  have lt : l < s.heap.objs.size := Heap.lt_size got
  have got' : (s.heap.push (emptySet w)).get? l = some { cls := .type "list", dict := d0, data := .seq items num, slots := s0 } := Heap.get?_push_of_some _ got
  have notS := F.sub_list_set
  have notF := F.sub_list_frozenset
  have notD : (Value.type "list" == Value.type "dict") = false := by decide
  have there' : (s.heap.push (emptySet w)).IsList l items := ⟨_, got', rfl, num, rfl⟩
  unfold Builtin.«set.__init__» noKeywords Builtin.Frozenset.updateFrom
  generalize hit : pyIter = PIt
  wp_walk
  subst hit
  refine wpAny_pyIter_list there' ?_
  refine wpAny_bind (wpAny_runValue ?_)
  have grown : (s.heap.push (emptySet w)).objs.size = s.heap.objs.size + 1 := Heap.size_push ..
  have apart : l ≠ (s.heap.push (emptySet w)).objs.size := by
    rw [grown]
    exact Nat.ne_of_lt (Nat.lt_succ_of_lt lt)
  have calm3 : A.in1.in1.handled = none := by simp [calm]
  refine set_update_ints ((Walks.list calm3 _ l apart items).toS) s.heap.objs.size ?out zs same room (fun i v e => vals_at its i v e) items.size 0 _ (Nat.sub_zero _) (Nat.zero_le _) ?stands ?start ?rest
  case stands => exact ⟨⟨_, Heap.get?_push_size _ rfl, rfl, rfl⟩, there'.push _⟩
  case start =>
    refine ⟨0, Nat.le_refl 0, setR_new_at ?_⟩
    exact Heap.get?_push_of_some _ hS
  case out =>
    rw [grown]
    simp only [List.mem_cons, List.not_mem_nil, or_false, not_or]
    exact ⟨Nat.ne_of_lt (Nat.lt_succ_self _), (Nat.ne_of_lt lt).symm⟩
  case rest =>
    rintro ⟨h2, g2, d2, t2, o2⟩ c moved few made
    have eg : g2 = s.gens := moved.gens
    have ed : d2 = s.drawn := moved.drawn
    have eo : o2 = s.os := moved.os
    subst eg ed eo
    refine wpAny_pure (wpAny_pure ⟨rfl, h2, t2, c, rfl, made, by omega, fun b o e => ?_⟩)
    have lb := Heap.lt_size e
    refine moved.heap b o ?_ (Heap.get?_push_of_some _ (Heap.get?_push_of_some _ e))
    rw [grown]
    simp only [List.mem_cons, List.not_mem_nil, or_false, not_or]
    exact ⟨Nat.ne_of_lt lb, Nat.ne_of_lt (Nat.lt_succ_of_lt lb)⟩
theorem set_from_list {l : Addr} {items : Array Value} (zs : List Int) {Q : Value → Shared → Prop} (calm : A.handled = none) (there : s.heap.IsList l items) (its : IntsAre items.toList zs) (room : zs.length + 1 < scanBound)
    (k : ∀ (h2 : Heap) (tk c : Nat), SetR w h2 s.heap.objs.size (fun j => decide (j ∈ zs)) c → c ≤ zs.length → (∀ b o, s.heap.get? b = some o → h2.get? b = some o) → Q (.ref s.heap.objs.size) { s with heap := h2, toks := tk }) :
    wpAny (model P w) A (call (.type "set") [.ref l]) Q E s := by
  have f1 := F.called_set.notType
  have f2 := F.called_set.canCreate
  have f3 := F.typeCall_set_1 (.ref l)
  have f4 := F.called_set.made
  have f5 := F.called_set.sub
  have f6 := F.called_set.init.lookup
  have f7 := F.called_set.init.bind (.ref s.heap.objs.size)
  obtain ⟨c0, tl, f8⟩ := F.called_set.mro
  have quiet : (Code.builtin "type.__call__" ⟨[.type "set", .ref l], []⟩).quiet = true := Code.quiet_builtin _ (by decide +kernel)
  refine wpAny_call (codeAny_of_tree (wpAny_pure ⟨quiet, codeAny_builtin PySem.F.entry_type_call ?_⟩))
  rw [Around.under_plain (weight_type_call_type "set" [.ref l] []) rfl]
  repeat (any_goals (first | assumption | wp_step))
  have fresh := code_set_led1 (P := P) (w := w) (A := A.in1) (s := s) (.ref l) (E := E) (Q₁ := fun x z => x = .ref s.heap.objs.size ∧ z = { s with heap := s.heap.push (emptySet w) }) ⟨rfl, rfl⟩
  refine codeAny_mono fresh ?_
  rintro (e | f) z hz
  · exact hz
  cases f with
  | ret x =>
    obtain ⟨rfl, rfl⟩ := hz
    have isSet : Shared.TypeIs { s with heap := s.heap.push (emptySet w) } (.ref s.heap.objs.size) "set" := ⟨_, Heap.get?_push_size _ rfl, rfl⟩
    repeat (any_goals (first | assumption | wp_step))
    refine codeAny_mono (init_from (E := E) zs (by simpa using calm) there its room) ?_
    rintro (e | f) z hz
    · exact hz
    cases f with
    | ret x =>
      obtain ⟨rfl, h2, tk, c, rfl, made, few, kept⟩ := hz
      repeat (any_goals (first | assumption | wp_step))
      exact k _ _ _ made few kept
    | _ => exact hz.elim
  | _ => exact hz.elim
end
section
variable {X : Cx}
/-- set(xs), xs a list of ints -/
def rSetOfI (K : PySem.W.Frag) (w : World) : List V → Hp → VK → Prop := fun vs H Q => ∃ (l : Addr) (zs : List Int), vs = [.ref l] ∧ SqL K H l (zs.map V.int) ∧ zs.length ≤ 1000 ∧ ∀ p c, H p = none → c ≤ zs.length → Q (.ref p) (upd H p (SetO w p (fun j => decide (j ∈ zs)) c))
theorem cr_setOfI (hc : X.calm = true) : CallR X (.type "set") (rSetOfI X.K X.w) := by
  intro pins s σ H vs us Q I r h
  obtain ⟨l, zs, rfl, there, few, q⟩ := h
  rw [Vals.ref1 r]
  obtain ⟨items, rv, pl, hz⟩ := I.list there
  refine set_from_list zs (I.ok.hd hc) pl.isList (by simpa using intsAre_of rv) (by unfold scanBound; omega) fun h2 tk c made fw kept => ?_
  exact ⟨.ref _, _, I.laid (a := s.heap.objs.size) (t' := tk) kept (Nat.le_refl _) (setO_new made), rfl, q _ c (I.hok.fresh (Nat.le_refl _)) fw⟩
end

/-! ### {e for x in xs if ..}, e an int -/
section
variable {X : Cx}
def tScI (w : World) (wi : TI) (g : TG) (tt : TT) (te : TE) (vs : List Nat) : TE := fun σ H Q => wi σ H fun J H1 => ∀ D, H1 D = none → ∃ W : Nat → Nat → Hp → Prop, (∃ m, W 0 m (upd H1 D (SetO w D (fun _ => false) 0))) ∧ ∀ i m G, W i m G →
  (J.stop i G ∧ Q (.ref D) G) ∨ (J.go i G ∧ ∃ Nx : Hp → Prop, (∀ G', Nx G' → ∃ m', m' < m ∧ W (i + 1) m' G') ∧ ∀ x G', J.yld i G x G' → g x (wipe σ vs) G' fun σ2 H2 => wipe σ2 vs = wipe σ vs ∧ tt σ2 H2 fun b H3 =>
    if b = true then te σ2 H3 fun y H4 => ∃ (k : Int) (S : Int → Bool) (n : Nat), y = .int k ∧ H4 D = some (SetO w D S n) ∧ n + 1 < scanBound ∧ Nx (upd H4 D (SetO w D (fun j => S j || decide (j = k)) (if S k = true then n else n + 1))) else Nx H3)
theorem addI {pins : List (Addr × Obj)} {σ : L2.St} {H : Hp} {s : Shared} {E : Value → Shared → Prop} {D : Addr} {S : Int → Bool} {n : Nat} {k : Int} {t : Tok} {Q : Value → Shared → Prop} (I : Inv X pins σ H s) (hD : H D = some (SetO X.w D S n)) (few : n + 1 < scanBound)
    (h : ∀ s', Inv X pins σ (upd H D (SetO X.w D (fun j => S j || decide (j = k)) (if S k = true then n else n + 1))) s' → Q .none s') : wpAny (model X.prog X.w) X.A (call (.builtin "set.add") [.ref D, .int k t]) Q E s :=
  setR_add (setO_get I hD) few fun h' sb new => by
    obtain ⟨u, hu⟩ : ∃ u, h'.get? D = some u := let ⟨o, _, _, _, ho, _⟩ := new; ⟨o, ho⟩
    exact h _ (I.write (e := D) (t' := s.toks + 1) (by rw [hD]; trivial) (.inl rfl) (fun b o hb ho => (sb.2 b hb).trans ho) ⟨u, hu⟩ (setO_new new))
open PpSet in
theorem pe_scI {elt tg iter : Expr} {ifs : List Expr} {scope : Scope} {own : List (PySem.Str × Nat)} {pos : Pos} {wi : TI} {g : TG} {tt : TT} {te : TE} (hc : X.calm = true) (hN : X.N.Nodup) (hi : PI X tg iter wi) (ok : BlkOk X.N X.env.scope scope own)
    (hg : ∀ s H C cl fp, PG (X.blk s H scope (compEnvC scope cl C X.env) fp) tg g)
    (ht : ∀ s H C cl fp, PTs (X.blk s H scope (compEnvC scope cl C X.env) fp) ifs tt)
    (he : ∀ s H C cl fp, PE (X.blk s H scope (compEnvC scope cl C X.env) fp) elt te)
    (hs : ∀ x, foldedSetIterable iter X.env x = pure x := by intro _; rfl) :
    PE X (.SetComp elt [⟨tg, iter, ifs, 0⟩] scope pos) (tScI X.w wi g tt te (own.map (·.2))) := ⟨fun pins s σ H Q I h => by
  rw [eval_SetComp]
  have closed : ∀ y ∈ scope.names, y.2 = .free → ∃ c, X.env.cells.lookup y.1 = some c := fun y hy e => (ok.free y hy e).elim (fun k => I.ok.has _ (.inl k)) (fun k => I.ok.has _ (.inr k))
  refine wpAny_comprehension_free (use := none) rfl hs (closure_ok closed) ok.kind (fun y hy e => by rw [ok.uniq y hy, e]) (thn (hi.run pins s σ H _ I h) fun _ _ a => thn a fun _ s2 b => ?_)
  obtain ⟨it, fp, tn, J, H2, rfl, I2, T, at2, fre2, q⟩ := b
  refine newSet_ok (newEnv_comp ?_)
  -- the set, laid at the end of the heap
  obtain ⟨D, hD⟩ : ∃ D, D = s2.heap.objs.size := ⟨_, rfl⟩
  obtain ⟨s3, hs3⟩ : ∃ s3 : Shared, s3 = { s2 with heap := s2.heap.push (emptySet X.w) } := ⟨_, rfl⟩
  have eh : s3.heap = s2.heap.push (emptySet X.w) := by rw [hs3]
  have nD : H2 D = none := I2.hok.fresh (Nat.le_of_eq hD.symm)
  have I3 : Inv X pins σ (upd H2 D (SetO X.w D (fun _ => false) 0)) s3 := by
    rw [hs3]
    exact I2.laid (t' := s2.toks) (fun b o e => Heap.get?_push_of_some _ e) (Nat.le_of_eq hD.symm) (by rw [hD]; exact setO_new (setR_new_at (ns := []) (Heap.get?_push_size _ rfl)))
  obtain ⟨W, ⟨m0, w0⟩, turn⟩ := q D nD
  have low : ∀ b ∈ fp, b < s2.heap.objs.size := fun b hb => let ⟨_, e, _⟩ := T.obj _ _ at2 b hb; Heap.lt_size e
  have fre3 : ∀ b ∈ fp, FpOk X pins (upd H2 D (SetO X.w D (fun _ => false) 0)) b ∧ b < s3.heap.objs.size := fun b hb =>
    ⟨⟨(upd_ne (by rw [hD]; exact Nat.ne_of_lt (low b hb))).trans (fre2 b hb).1, (fre2 b hb).2⟩, by rw [eh, Heap.size_push]; exact Nat.lt_succ_of_lt (low b hb)⟩
  have at3 : tn 0 s3.heap := T.keep _ _ _ at2 fun b _ o e => by rw [eh]; exact Heap.get?_push_of_some _ e
  obtain ⟨G, hG⟩ : ∃ G, G = upd H2 D (SetO X.w D (fun _ => false) 0) := ⟨_, rfl⟩
  rw [← hG] at I3 w0 fre3
  have I4 := block_start I3 ok hN fre3
  have free3 : ∀ b ∈ fp, G b = none := fun b hb => (fre3 b hb).1.1
  obtain ⟨ce, hce⟩ : ∃ ce, ce = compEnvC scope (cellsFrom (s3.heap.objs.size + 1) scope.names (cloFrom X.env.cells scope.names [])) s3.heap.objs.size X.env := ⟨_, rfl⟩
  have pg := hg s3 G s3.heap.objs.size (cellsFrom (s3.heap.objs.size + 1) scope.names (cloFrom X.env.cells scope.names [])) fp
  have pt := ht s3 G s3.heap.objs.size (cellsFrom (s3.heap.objs.size + 1) scope.names (cloFrom X.env.cells scope.names [])) fp
  have pe := he s3 G s3.heap.objs.size (cellsFrom (s3.heap.objs.size + 1) scope.names (cloFrom X.env.cells scope.names [])) fp
  rw [← hce] at I4 pg pt pe
  have eL : ce.locals = s3.heap.objs.size := by rw [hce]; rfl
  obtain ⟨s4, hs4⟩ : ∃ s4 : Shared, s4 = { s3 with heap := pushCells (s3.heap.push { cls := .type "dict", data := .dict #[] }) scope.names } := ⟨_, rfl⟩
  rw [← hs4] at I4
  have at4 : tn 0 s4.heap := T.keep _ _ _ at3 fun b _ o e => by rw [hs4]; exact pushCells_keeps _ _ _ _ (Heap.get?_push_of_some _ e)
  have fpB : ∀ {σ' : L2.St} {H' : Hp} {s' : Shared}, Inv (X.blk s3 G scope ce fp) [] σ' H' s' → (∀ b ∈ fp, H' b = none) → ∀ b ∈ fp, FpOk (X.blk s3 G scope ce fp) [] H' b := fun I' n b hb =>
    ⟨n b hb, (I'.ok.exf b hb).1, I'.ok.exfs b hb, .inl hb, fun x c e => (I'.ok.exf b hb).2 x c e, fun p hp => absurd (show p ∈ ([] : List (Addr × Obj)) ++ [] from hp) (by simp)⟩
  have loop : codeAny (model X.prog X.w) X.A (.compLoop (.SetComp elt [⟨tg, iter, ifs, 0⟩] scope pos) 0 (.ref it) (.ref D) ce) (compPost (model X.prog X.w) X.A X.xe none (fun u s' => EP X pins σ Q u s') (.ref D) s3.heap.objs.size) s4 := by
    refine compLoopS_any (fun n s' => ∃ i H', Inv (X.blk s3 G scope ce fp) [] (wipe σ (own.map (·.2))) H' s' ∧ tn i s'.heap ∧ (∀ b ∈ fp, H' b = none) ∧ W i n H') (fun n s5 hh => ?_) m0 ⟨0, G, I4, at4, free3, w0⟩
    obtain ⟨i, H5, I5, at5, free5, w5⟩ := hh
    rcases turn i n H5 w5 with ⟨stop, qq⟩ | ⟨go, Nx, hNx, step⟩
    · refine thnF (T.done (X.blk s3 G scope ce fp) rfl rfl rfl hc i [] s5 _ H5 (fun _ _ => False) I5 (fpB I5 free5) at5 stop) fun r s6 hr => ?_
      obtain ⟨rfl, I6⟩ := hr
      have I7 : Inv X pins σ H5 s6 := I3.call' (ch := fp) I6.os I6.base I6.hok I6.bare fun b hb => let z := (fre3 b hb).1.2; ⟨z.2.2.1, z.1, z.2.2.2.1, z.2.2.2.2⟩
      have nC : H5 s3.heap.objs.size = none := eL ▸ (show H5 ce.locals = none from I6.free)
      obtain ⟨m, hn, _⟩ := I6.loc
      have hn' : s6.heap.Ns s3.heap.objs.size m := eL ▸ (show s6.heap.Ns ce.locals m from hn)
      refine ⟨m, hn', fun h'' sb => ?_⟩
      obtain ⟨f0, f1, _, f3, f4, f5⟩ := I3.fpOk (Nat.le_refl _) nC
      exact ⟨.ref D, H5, I7.turned (t' := s6.toks) (fun b o hb e => (sb.2 b hb).trans e) f0 f1 f3 f4 f5, rfl, qq⟩
    · refine thnF (T.item (X.blk s3 G scope ce fp) rfl rfl rfl hc i [] s5 _ H5 (fun _ _ => False) I5 (fpB I5 free5) at5 go) fun r s6 hr => ?_
      obtain ⟨u, rfl, h6⟩ := hr
      refine thnF h6 fun _ s7 h7 => ?_
      obtain ⟨x, H7, I7, r7, y7, at7, free7⟩ := h7
      refine thnF (pg.run _ s7 _ H7 x u _ (I7.pinned (fpB I7 free7) (T.obj _ _ at7)) r7 (step x H7 y7)) fun _ s8 h8 => ?_
      obtain ⟨σ8, H8, I8, hw8, q8⟩ := h8
      refine thnF (pt.run _ s8 σ8 H8 _ I8 q8) fun b s9 h9 => ?_
      obtain ⟨H9, I9, q9⟩ := h9
      have next : ∀ {s' : Shared} {H' : Hp}, Inv (X.blk s3 G scope ce fp) ([] ++ pinsAt fp s7.heap) σ8 H' s' → Nx H' → ∃ m, m < n ∧ ∃ i H', Inv (X.blk s3 G scope ce fp) [] (wipe σ (own.map (·.2))) H' s' ∧ tn i s'.heap ∧ (∀ b ∈ fp, H' b = none) ∧ W i m H' := fun {s' H'} I' nx => by
        obtain ⟨m', lt, w'⟩ := hNx H' nx
        have still : ∀ b ∈ fp, ∀ o, s7.heap.get? b = some o → s'.heap.get? b = some o ∧ H' b = none := fun b hb o e => let z := I'.pin (b, o) (List.mem_append_right _ (List.mem_append_right _ (mem_pinsAt hb e))); ⟨z.1, z.2.1⟩
        exact ⟨m', lt, i + 1, H', (I'.unpinned (pins := [])).weak (by rw [← hw8, wipe_length]) (fun j v e => (wipe_some (hw8 ▸ e)).1), T.keep _ _ _ at7 fun b hb o e => (still b hb o e).1, fun b hb => let ⟨o, e, _⟩ := T.obj _ _ at7 b hb; (still b hb o e).2, w'⟩
      cases b with
      | false =>
        rw [if_neg Bool.false_ne_true] at q9
        exact next I9 q9
      | true =>
        rw [if_pos rfl] at q9
        refine thnF (pe.run _ s9 σ8 H9 _ I9 q9) fun z s10 h10 => ?_
        obtain ⟨yv, H10, I10, r10, k, S0, n0, rfl, hD10, few, nx⟩ := h10
        obtain ⟨tk, rfl⟩ := r10
        exact addI (X := X.blk s3 G scope ce fp) I10 hD10 few fun s11 I11 => next I11 nx
  subst hs4 hce hs3 hD
  exact codeAny_compStart_set loop (T.self X.A 0 _ _ _ at4 loop)⟩
end

/-! ### dicts whose keys are tuples of truth values -/
/-- an entry: its key, where the key stands, what it holds -/
abbrev EntB := List Bool × Addr × V
def hashT (k : List Bool) : Int := reduceHash (Builtin.Tuple.tupleHashOf (k.map PpSet.hB))
def rawB (x : List Bool × Addr × Value) : DictEntry := ⟨hashT x.1, .ref x.2.1, x.2.2⟩
abbrev TwoB : List EntB → List (List Bool × Addr × Value) → Prop := Paired fun p q => (p.1 = q.1 ∧ p.2.1 = q.2.1) ∧ RelV p.2.2 q.2.2
def isB (a : Addr) (es : List EntB) (h : Heap) : Prop := es.length ≤ sizeLine ∧ (a == sysModules) = false ∧ ∃ xs, TwoB es xs ∧ ∃ o ds ep, h.get? a = some o ∧ o.ExactDict ∧ o.data = .dict ds ep ∧ ds.toList = xs.map rawB ∧ (xs.map (·.1)).Nodup
def DicB (a : Addr) (es : List EntB) : HO := .ext (isB a es)
section
variable {P : Program} {w : World} {H : Hp} {h h' : Heap} {a : Addr} {es : List EntB}
theorem isB_stay (x : isB a es h) (k : ∀ o, h.get? a = some o → h'.get? a = some o) : isB a es h' := by
  obtain ⟨z, y, xs, t, o, ds, ep, e, r⟩ := x
  exact ⟨z, y, xs, t, o, ds, ep, k o e, r⟩
theorem dicB_ok (x : isB a es h) : ObjOk P w H h a (DicB a es) := by
  have y := x
  obtain ⟨_, _, _, _, o, _, _, e, _⟩ := y
  exact ⟨x, ⟨o, e⟩, fun _ _ p q => isB_stay p q⟩
/-- the keys stand where they are said to -/
def KeysB (K : PySem.W.Frag) (H : Hp) (es : List EntB) : Prop := ∀ e ∈ es, SqT K H e.2.1 (e.1.map V.bl)
end
section
variable {X : Cx} {pins : List (Addr × Obj)} {σ : L2.St} {H : Hp} {s : Shared} {a b : Addr} {es : List EntB} {k : List Bool} {A : Around} {E : Value → Shared → Prop}
theorem bools_are : ∀ {ks : List Bool} {us : List Value}, Vals (ks.map V.bl) us → ItemsAre (PpSet.boolK X.prog X.w) ks us
  | [], _, r => by cases r; exact .nil
  | k :: ks, _, r => by
    rw [List.map_cons] at r
    cases r with
    | cons h t =>
      cases h
      exact .cons (PpSet.boolK_is _ _ k) (bools_are t)
theorem keyB_is (I : Inv X pins σ H s) (h : SqT X.K H b (k.map V.bl)) : (tupleKind (PpSet.boolK X.prog X.w)).is s.heap k b := by
  obtain ⟨its, r, ⟨o, h1, h2, n, h3⟩, _⟩ := I.tuple h
  exact ⟨o, its.toArray, n, h1, h2, h3, by simpa using bools_are (X := X) r⟩
theorem twoB_mem : ∀ {es : List EntB} {xs : List (List Bool × Addr × Value)}, TwoB es xs → ∀ x ∈ xs, ∃ e ∈ es, e.1 = x.1 ∧ e.2.1 = x.2.1
  | _, _, .nil, x, h => nomatch h
  | _, _, .cons r t, x, h => by
    rcases List.mem_cons.mp h with rfl | h
    · exact ⟨_, List.mem_cons_self, r.1⟩
    · obtain ⟨e, h1, h2⟩ := twoB_mem t x h
      exact ⟨e, List.mem_cons_of_mem _ h1, h2⟩
theorem twoB_keys : ∀ {es : List EntB} {xs : List (List Bool × Addr × Value)}, TwoB es xs → xs.map (·.1) = es.map (·.1)
  | _, _, .nil => rfl
  | _, _, .cons r t => by rw [List.map_cons, List.map_cons, twoB_keys t, r.1.1]
theorem raw_ent : (rawB : List Bool × Addr × Value → DictEntry) = entryOfKey (tupleKind (PpSet.boolK X.prog X.w)) := rfl
theorem dicB_of (I : Inv X pins σ H s) (e : H a = some (DicB a es)) (ks : KeysB X.K H es) : es.length ≤ sizeLine ∧ (a == sysModules) = false ∧ ∃ xs, TwoB es xs ∧ s.heap.DictOfH (tupleKind (PpSet.boolK X.prog X.w)) a xs := by
  obtain ⟨⟨z, y, xs, t, o, ds, ep, h1, h2, h3, h4, h5⟩, _⟩ := I.hok a _ e
  refine ⟨z, y, xs, t, o, ds, ep, h1, h2, h3, by rw [h4, raw_ent (X := X)], fun x hx => ?_, h5⟩
  obtain ⟨p, q1, q2, q3⟩ := twoB_mem t x hx
  rw [← q2, ← q3]
  exact keyB_is I (ks p q1)
def hasB (es : List EntB) (k : List Bool) : Bool := decide (k ∈ es.map (·.1))
theorem has_at {xs : List (List Bool × Addr × Value)} : (atKey xs k).isSome = decide (k ∈ xs.map (·.1)) := by
  unfold atKey
  rw [Option.isSome_map]
  induction xs with
  | nil => simp
  | cons x xs ih =>
    by_cases q : x.1 = k
    · rw [List.find?_cons_of_pos (by simpa using q)]
      simp [q]
    · rw [List.find?_cons_of_neg (by simpa using q), ih]
      have q2 : ¬ k = x.1 := fun z => q z.symm
      simp [q2]
/-- x in d, x not in d -/
def rInB (K : PySem.W.Frag) (neg : Bool) : R2 := fun x y H Q => ∃ b k a es, x = .ref b ∧ SqT K H b (k.map V.bl) ∧ y = .ref a ∧ H a = some (DicB a es) ∧ KeysB K H es ∧ Q (.bl (if neg = true then !hasB es k else hasB es k)) H
theorem op_inB (hu : X.A.units + 1 < cLine) : OpR X (compareOp .In) (rInB X.K false) := by
  intro pins s σ H x y v u Q I rx ry h
  obtain ⟨b, k, a, es, rfl, hb, rfl, ha, ks, q⟩ := h
  cases rx
  cases ry
  obtain ⟨z, hd, xs, t, dd⟩ := dicB_of I ha ks
  refine wpAny_in_heap (tupleKind_room_in1 hu) (keyB_is I hb) hd dd ?_
  rw [has_at, twoB_keys t]
  exact ⟨.bl (hasB es k), H, I.tok _, rfl, q⟩
theorem op_notInB (hu : X.A.units + 1 < cLine) : OpR X (compareOp .NotIn) (rInB X.K true) := by
  intro pins s σ H x y v u Q I rx ry h
  obtain ⟨b, k, a, es, rfl, hb, rfl, ha, ks, q⟩ := h
  cases rx
  cases ry
  obtain ⟨z, hd, xs, t, dd⟩ := dicB_of I ha ks
  refine wpAny_notIn_heap (tupleKind_room_in1 hu) (keyB_is I hb) hd dd ?_
  rw [has_at, twoB_keys t]
  exact ⟨.bl (!hasB es k), H, I.tok _, rfl, q⟩
/-- d[k] = v, k not there -/
def rSetB (K : PySem.W.Frag) : V → V → V → Hp → (Hp → Prop) → Prop := fun o i v H Q => ∃ a b k es, o = .ref a ∧ i = .ref b ∧ SqT K H b (k.map V.bl) ∧ H a = some (DicB a es) ∧ KeysB K H es ∧ k ∉ es.map (·.1) ∧ es.length < sizeLine ∧ Q (upd H a (DicB a (es ++ [(k, b, v)])))
theorem set_dicB (hu : X.A.units + 1 < cLine) : PSet X (rSetB X.K) := by
  intro pins s σ H o i v ov iv u Q I ro ri rv h
  obtain ⟨a, b, k, es, rfl, rfl, hb, ha, ks, hk, hl, q⟩ := h
  cases ro
  cases ri
  obtain ⟨z, hd, xs, t, dd⟩ := dicB_of I ha ks
  have lx : xs.length = es.length := (Paired.length t).symm
  refine wpAny_setItem_heap (hsz := by rw [lx]; exact z) (tupleKind_room_in1 hu) (keyB_is I hb) dd fun h' dd' hs => ⟨_, d_write I (by rw [ha]; exact True.intro) hs ?_ ?_, q⟩
  · obtain ⟨ob, _, _, hq, _⟩ := dd'
    exact ⟨ob, hq⟩
  · refine dicB_ok ?_
    have no : (atKey xs k).isSome = false := by rw [has_at, twoB_keys t]; exact decide_eq_false hk
    have es' : storedH xs k b u = xs ++ [(k, b, u)] := by
      unfold storedH
      rw [no]
      rfl
    rw [es'] at dd'
    obtain ⟨ob, ds, ep, q1, q2, q3, q4, _, q5⟩ := dd'
    exact ⟨by rw [List.length_append, List.length_singleton]; omega, hd, xs ++ [(k, b, u)], Paired.snoc t ⟨⟨rfl, rfl⟩, rv⟩, ob, ds, ep, q1, q2, q3, by rw [q4, raw_ent (X := X)], q5⟩
/-- {} -/
def tDNewB : TE := fun _ H Q => ∀ p, H p = none → Q (.ref p) (upd H p (DicB p []))
theorem pe_dnewB {pos : Pos} : PE X (.Dict [] [] pos) tDNewB := ⟨fun pins s σ H Q I h => by
  have fr : H s.heap.objs.size = none := I.hok.fresh (Nat.le_refl _)
  have big : (s.heap.objs.size == sysModules) = false := beq_eq_false_iff_ne.mpr fun z => absurd I.big (by rw [← z]; exact Nat.lt_irrefl _)
  refine wpAny_Dict_empty ⟨.ref s.heap.objs.size, _, I.laid (a := s.heap.objs.size) (o := DicB s.heap.objs.size []) (t' := s.toks) (fun _ _ q => Heap.get?_push_of_some _ q) (Nat.le_refl _) (dicB_ok ?_), rfl, h _ fr⟩
  exact ⟨Nat.zero_le _, big, [], .nil, _, #[], 0, Heap.get?_push_size _ rfl, ⟨rfl, rfl, rfl⟩, rfl, rfl, List.nodup_nil⟩⟩
end

/-! ### list(d.items()) of such a dict -/
section
variable {P : Program} {w : World} {A : Around} {s : Shared} {ds : Array DictEntry} {ep : Nat} {r d : Addr}
/-- the new list is filled -/
theorem fillI {R : Result → Shared → Prop} (calm : A.handled = none) (view : s.heap.IsItemsView r d) (raw : DT.Raw s.heap d ds ep) {L : Addr} (lr : L ≠ r) (ld : d ≠ L) (hL : s.heap.get? L = some { cls := .type "list", data := .seq #[] }) (few : ds.size ≤ sizeLine)
    (fin : ∀ h2 tk acc c as, (∀ b o, b ≠ L → s.heap.get? b = some o → h2.get? b = some o) → h2.get? L = some { cls := .type "list", dict := none, data := .seq acc c, slots := #[] } → as.length = ds.size → DT.Made ds L h2 as → acc.toList = as.map Value.ref → R (.ok (.ret .none)) { s with heap := h2, toks := tk }) :
    wpAny (model P w) A.in1 (Builtin.«list.__init__» ⟨[.ref L, .ref r], []⟩) (fun f z => match f with | .done f => R (.ok f) z | .again c => c.quiet = true ∧ codeAny (model P w) A c R z) (fun e z => R (.error e) z) s := by
  show wpAny _ _ (do let was ← Builtin.List.listItems (.ref L); Builtin.List.listUpdate (.ref L) (fun _ => #[]); letGo was.toList.reverse; Builtin.List.listExtendWith (.ref L) (.ref r) .none) _ _ s
  refine wpAny_bind ?_
  unfold Builtin.List.listItems
  refine wpAny_bind (wpAny_seqItems hL rfl (wpAny_pure ?_))
  show wpAny _ _ (updateSeq L (fun _ => #[]) >>= fun _ => letGo (#[] : Array Value).toList.reverse >>= fun _ => Builtin.List.listExtendWith (.ref L) (.ref r) .none) _ _ s
  refine wpAny_bind (wpAny_updateSeq hL rfl ?_)
  have hL2 := Heap.get?_update_self (Obj.mapSeq (fun _ => (#[] : Array Value))) hL rfl
  have rest : ∀ b o, b ≠ L → s.heap.get? b = some o → (s.heap.update L (Obj.mapSeq (fun _ => (#[] : Array Value)))).get? b = some o := fun b o nb g => (Heap.get?_update_other _ _ (Ne.symm nb)).trans g
  refine wpAny_bind (wpAny_letGo ?_)
  have view2 : (s.heap.update L (Obj.mapSeq (fun _ => (#[] : Array Value)))).IsItemsView r d := let ⟨o, g, y⟩ := view; ⟨o, rest r o lr.symm g, y⟩
  refine DT.extI calm view2 (raw.at' fun o g => rest d o ld g) L lr ld .none _ hL2 (fun h2 tk acc c as k1 k2 k3 k4 k5 => ?_) few
  exact fin h2 tk acc c as (fun b o nb g => k1 b o nb (rest b o nb g)) k2 k3 (k4.low (Nat.le_of_lt (Heap.lt_size hL2))) k5
theorem listI {E : Value → Shared → Prop} {Q : Value → Shared → Prop} (calm : A.handled = none) (view : s.heap.IsItemsView r d) (raw : DT.Raw s.heap d ds ep) (few : ds.size ≤ sizeLine)
    (fin : ∀ h2 tk acc c as, (∀ b o, s.heap.get? b = some o → h2.get? b = some o) → h2.get? s.heap.objs.size = some { cls := .type "list", dict := none, data := .seq acc c, slots := #[] } → as.length = ds.size → DT.Made ds s.heap.objs.size h2 as → acc.toList = as.map Value.ref → Q (.ref s.heap.objs.size) { s with heap := h2, toks := tk }) :
    wpAny (model P w) A (call (.type "list") [.ref r]) Q E s := by
  refine callType_codes (Q₁ := fun o z => o = .ref s.heap.objs.size ∧ z = { s with heap := s.heap.push { cls := .type "list", data := .seq #[] } }) F.called_list (F.typeCall_list_1 _) F.entry_list_init (code_list_new _ ⟨rfl, rfl⟩) fun o z hz => ?_
  obtain ⟨rfl, rfl⟩ := hz
  have hL : (s.heap.push { cls := .type "list", data := .seq #[] }).get? s.heap.objs.size = some { cls := .type "list", data := .seq #[] } := Heap.get?_push_size _ rfl
  have lr : r < s.heap.objs.size := let ⟨_, g, _⟩ := view; Heap.lt_size g
  have ld : d < s.heap.objs.size := raw.lt
  have view2 : (s.heap.push { cls := .type "list", data := .seq #[] }).IsItemsView r d := let ⟨o, g, y⟩ := view; ⟨o, Heap.get?_push_of_some _ g, y⟩
  refine ⟨⟨_, hL, rfl⟩, F.args_list_init_2 _ _, fillI (A := A.in1) calm view2 (raw.push _) (Nat.ne_of_gt lr) (Nat.ne_of_lt ld) hL few fun h2 tk acc c as k1 k2 k3 k4 k5 => ?_⟩
  exact ⟨rfl, fin h2 tk acc c as (fun b o g => k1 b o (Nat.ne_of_lt (Heap.lt_size g)) (Heap.get?_push_of_some _ g)) k2 k3 k4 k5⟩
end
/-- the pairs laid at their places -/
def layP : Hp → List Addr → List EntB → Hp
  | H, t :: ts, e :: es => layP (upd H t (.tup [.ref e.2.1, e.2.2])) ts es
  | H, _, _ => H
theorem layP_off {b : Addr} : ∀ (ts : List Addr) (es : List EntB) (H : Hp), b ∉ ts → layP H ts es b = H b
  | [], _, _, _ => rfl
  | _ :: _, [], _, _ => rfl
  | t :: ts, e :: es, H, h => by
    rw [layP, layP_off ts es _ fun z => h (.tail _ z), upd_ne fun z => h (by rw [z]; exact .head _)]
theorem layP_at : ∀ (ts : List Addr) (es : List EntB) (H : Hp), ts.length = es.length → ts.Nodup → ∀ (j : Nat) (t : Addr) (e : EntB), ts[j]? = some t → es[j]? = some e → layP H ts es t = some (.tup [.ref e.2.1, e.2.2])
  | [], _, _, _, _, j, t, e, h, _ => by simp at h
  | _ :: _, [], _, h, _, _, _, _, _, _ => by cases h
  | t0 :: ts, e0 :: es, H, hl, nd, j, t, e, h1, h2 => by
    obtain ⟨n1, n2⟩ := List.nodup_cons.mp nd
    cases j with
    | zero =>
      cases (show t0 = t by simpa using h1)
      cases (show e0 = e by simpa using h2)
      rw [layP, layP_off _ _ _ n1, upd_same]
    | succ j => exact layP_at ts es _ (Nat.succ.inj hl) n2 j t e (by simpa using h1) (by simpa using h2)
theorem refs_vals : ∀ ts : List Addr, Vals (ts.map V.ref) (ts.map Value.ref)
  | [] => .nil
  | _ :: ts => .cons rfl (refs_vals ts)
theorem twoB_at : ∀ {es : List EntB} {xs : List (List Bool × Addr × Value)}, TwoB es xs → ∀ (j : Nat) (x : List Bool × Addr × Value), xs[j]? = some x → ∃ e, es[j]? = some e ∧ (e.1 = x.1 ∧ e.2.1 = x.2.1) ∧ RelV e.2.2 x.2.2
  | _, _, .nil, j, x, h => by simp at h
  | _, _, .cons r t, 0, x, h => by
    cases h
    exact ⟨_, rfl, r⟩
  | _, _, .cons r t, j + 1, x, h => twoB_at t j x (by simpa using h)
def rItemsB : V → Hp → VK → Prop := fun x H Q => ∃ (d : Addr) (es : List EntB), x = .ref d ∧ H d = some (DicB d es) ∧
  ∀ (H' : Hp) (p : Addr) (ts : List Addr), Same H H' → H p = none → (∀ t ∈ ts, H t = none) → p ∉ ts → H' p = some (.lst (ts.map V.ref)) → ts.length = es.length → (∀ (j : Nat) (t : Addr) (e : EntB), ts[j]? = some t → es[j]? = some e → H' t = some (.tup [.ref e.2.1, e.2.2])) → Q (.ref p) H'
def tItemsB (te : TE) : TE := fun σ H Q => te σ H fun x H1 => rItemsB x H1 Q
section
variable {X : Cx} {e : Expr} {te : TE} {p apos cpos pos : Pos}
theorem pairs_laid {pins : List (Addr × Obj)} {σ : L2.St} {H : Hp} {s : Shared} {h2 : Heap} {tk : Nat} {es : List EntB} {xs : List (List Bool × Addr × Value)} {ds : Array DictEntry} {acc : Array Value} {c : Nat} {ts : List Addr} (I : Inv X pins σ H s) (few : es.length ≤ sizeLine) (two : TwoB es xs) (raw : ds.toList = xs.map rawB)
    (keep : ∀ b o, s.heap.get? b = some o → h2.get? b = some o) (hL : h2.get? s.heap.objs.size = some { cls := .type "list", dict := none, data := .seq acc c, slots := #[] }) (len : ts.length = ds.size) (made : DT.Made ds s.heap.objs.size h2 ts) (all : acc.toList = ts.map Value.ref) :
    ∃ H' : Hp, Same H H' ∧ H s.heap.objs.size = none ∧ (∀ t ∈ ts, H t = none) ∧ s.heap.objs.size ∉ ts ∧ H' s.heap.objs.size = some (.lst (ts.map V.ref)) ∧ ts.length = es.length ∧ (∀ (j : Nat) (t : Addr) (e : EntB), ts[j]? = some t → es[j]? = some e → H' t = some (.tup [.ref e.2.1, e.2.2])) ∧ Inv X pins σ H' { s with heap := h2, toks := tk } := by
  have l1 : ds.size = xs.length := by
    have := congrArg List.length raw
    simpa using this
  have l2 : es.length = xs.length := Paired.length two
  have lts : ts.length = es.length := by omega
  have out : s.heap.objs.size ∉ ts := fun z => Nat.lt_irrefl _ (made.above _ z)
  have nd : ts.Nodup := made.rise.imp fun h => Nat.ne_of_lt h
  have free : ∀ t ∈ ts, H t = none := fun t ht => I.hok.fresh (Nat.le_of_lt (made.above t ht))
  have freeL : H s.heap.objs.size = none := I.hok.fresh (Nat.le_refl _)
  have at_ := layP_at ts es (upd H s.heap.objs.size (.lst (ts.map V.ref))) lts nd
  have off : ∀ b, b ∉ ts → b ≠ s.heap.objs.size → layP (upd H s.heap.objs.size (.lst (ts.map V.ref))) ts es b = H b := fun b n1 n2 => by rw [layP_off ts es _ n1, upd_ne n2]
  have low : ∀ b o, s.heap.get? b = some o → b ∉ ts ∧ b ≠ s.heap.objs.size := fun b o g => ⟨fun z => absurd (Heap.lt_size g) (Nat.not_lt.mpr (Nat.le_of_lt (made.above b z))), Nat.ne_of_lt (Heap.lt_size g)⟩
  have kp : Same H (layP (upd H s.heap.objs.size (.lst (ts.map V.ref))) ts es) := fun b u g => by
    rw [off b (fun z => by rw [free b z] at g; cases g) (fun z => by rw [z, freeL] at g; cases g)]
    exact g
  have eL : layP (upd H s.heap.objs.size (.lst (ts.map V.ref))) ts es s.heap.objs.size = some (.lst (ts.map V.ref)) := by rw [layP_off ts es _ out, upd_same]
  refine ⟨_, kp, freeL, free, out, eL, lts, at_, ?_⟩
  refine I.call' (ch := []) rfl ⟨fun b o q _ _ _ => keep b o q, fun b o q _ _ _ => ⟨o.slots, keep b o q⟩, fun b o q n _ => ?_, fun b o q _ => ⟨o, keep b o q⟩, fun b zs q => kp b _ q, fun b o u q => kp b _ q, fun b ps q => ⟨#[], by rw [kp b _ q]; simp⟩⟩ (fun b u q => ?_) I.bare fun b z => by simp at z
  · obtain ⟨z1, z2⟩ := low b o q
    rw [off b z1 z2]
    exact n
  · by_cases hb : b ∈ ts
    · obtain ⟨j, hj⟩ := List.getElem?_of_mem hb
      have hjl := (List.getElem?_eq_some_iff.mp hj).1
      obtain ⟨ent, f1, f2⟩ := made.pairs j b hj
      have f3 : (xs.map rawB)[j]? = some ent := by rw [← raw, Array.getElem?_toList]; exact f1
      rw [List.getElem?_map] at f3
      obtain ⟨x, f4, f5⟩ := Option.map_eq_some_iff.mp f3
      obtain ⟨e, g1, g2, g3⟩ := twoB_at two j x f4
      rw [at_ j b e hj g1] at q
      cases q
      subst f5
      have rk : RelV (.ref e.2.1) (Value.ref x.2.1) := by rw [g2.2]; rfl
      exact ⟨by show 2 ≤ sizeLine; decide, [.ref x.2.1, x.2.2], .cons rk (.cons g3 .nil), ⟨_, f2, rfl, _, rfl⟩⟩
    · by_cases hb2 : b = s.heap.objs.size
      · rw [hb2] at q ⊢
        rw [eL] at q
        cases q
        refine ⟨by rw [List.length_map]; omega, acc.toList, c, by rw [all]; exact refs_vals ts, ?_⟩
        rw [Array.toArray_toList]
        exact hL
      · rw [off b hb hb2] at q
        exact (I.hok b u q).stay (fun d v _ y => keep d v y) (fun d y => kp d _ y) fun d zs y => kp d _ y
theorem pe_itemsB (calm : X.calm = true) (he : PE X e te) (hg : Gl X "list") (hm : X.mg "list" = none) (hv : bootBuiltins "list" = some (.type "list")) (hbase : attributeBase e "items" X.env (eval e X.env) = eval e X.env := by rfl) (hline : (apos.endLine == cpos.line) = true := by rfl)
    (hs : starEach [.Call (.Attribute e "items" apos) [] [] cpos] X.env = (false, eval (.Call (.Attribute e "items" apos) [] [] cpos) X.env) :: starEach [] X.env := by rfl) :
    PE X (.Call (.Name "list" p) [.Call (.Attribute e "items" apos) [] [] cpos] [] pos) (tItemsB te) := by
  refine ⟨fun pins s σ H Q I hq => ?_⟩
  refine wpAny_Call_Name_kw (ld_blt I hg hm hv ?_)
  refine PyProof.Rows.callWith_type1 ?_ hs rfl
  rw [hs]
  show wpAny _ _ (spliced ((false, eval (.Call (.Attribute e "items" apos) [] [] cpos) X.env) :: backTo pos (starEach [] X.env))) _ _ s
  refine Calls.spliced_cons ?_
  refine wpAny_Call_method (T := "dict") (id := "dict.items") hbase rfl hline F.plainAttrs_dict F.slot_dict_items F.type_dict_items (thn (he.run pins s σ H _ I hq) fun u s1 ⟨x, H1, I1, rx, d, es, ex, hd, q⟩ => ?_)
  subst ex
  obtain rfl : u = Value.ref d := rx
  obtain ⟨⟨few, hsys, xs, two, o, ds, ep, h1, h2, h3, h4, h5⟩, _⟩ := I1.hok d _ hd
  have I2 : Inv X pins σ H1 { s1 with heap := s1.heap.push { cls := .type "dict_items", data := .fields #[.ref d] } } := I1.kept (t' := s1.toks) fun b o' q => Heap.get?_push_of_some _ q
  have raw : DT.Raw s1.heap d ds ep := ⟨o, h1, h2, h3⟩
  have few2 : ds.size ≤ sizeLine := by
    have l1 : ds.size = xs.length := by simpa using congrArg List.length h4
    have l2 : es.length = xs.length := Paired.length two
    omega
  refine ⟨raw.typeIs, fun b q => ?_, ?_⟩
  · cases q
    exact ⟨o, h1, h2.2.1⟩
  show wpAny _ _ (callWith cpos (.builtin "dict.items") [.ref d] [] []) _ X.xe s1
  refine method_meetsIn F.slot_dict_items F.entry_dict_items rfl (PySem.evalArgs_none ⟨rfl, raw.typeIs, F.args_dict_items_1 _, _, DT.meetsItems hsys, raw, ?_⟩)
  refine Calls.spliced_nil ?_
  refine listI (I1.ok.hd calm) ⟨_, Heap.get?_push_size _ rfl, rfl, rfl⟩ (raw.push _) few2 fun h' tk acc c as k1 k2 k3 k4 k5 => ?_
  obtain ⟨H', a1, a2, a3, a4, a5, a6, a7, J⟩ := pairs_laid (tk := tk) I2 few two h4 k1 k2 k3 k4 k5
  exact ⟨.ref _, H', J, rfl, q H' _ as a1 a2 a3 a4 a5 a6 a7⟩
end

/-! ### zip of a tuple or a list with a tuple or a list -/
/-- k: a tuple, else a list -/
def ItAt (k : Bool) (h : Heap) (it l : Addr) (i : Nat) : Prop := if k = true then h.IsTupleIter it l i else h.IsListIter it l i
def SqAt (k : Bool) (h : Heap) (l : Addr) (xs : Array Value) : Prop := if k = true then h.IsTuple l xs else h.IsList l xs
theorem ItAt.off {k : Bool} {h h' : Heap} {a b l : Addr} {i : Nat} (x : ItAt k h a l i) (e : Heap.ExtBut b h h') (n : a ≠ b) : ItAt k h' a l i := by
  cases k
  · exact Heap.IsListIter.extBut (show h.IsListIter a l i from x) e n
  · exact Heap.IsTupleIter.extBut (show h.IsTupleIter a l i from x) e n
theorem ItAt.on {k : Bool} {h h' : Heap} {a l : Addr} {i : Nat} (x : ItAt k h a l i) (e : ∀ o, h.get? a = some o → h'.get? a = some o) : ItAt k h' a l i := by
  cases k
  · exact Heap.IsListIter.at (show h.IsListIter a l i from x) e
  · exact Heap.IsTupleIter.at (show h.IsTupleIter a l i from x) e
theorem ItAt.obj {k : Bool} {h : Heap} {a l : Addr} {i : Nat} (x : ItAt k h a l i) : ∃ o, h.get? a = some o ∧ ∀ v, o.data ≠ .cell v := by
  cases k
  · obtain ⟨o, e, _, d⟩ := (show h.IsListIter a l i from x)
    exact ⟨o, e, fun v q => by rw [d] at q; cases q⟩
  · obtain ⟨o, e, _, d⟩ := (show h.IsTupleIter a l i from x)
    exact ⟨o, e, fun v q => by rw [d] at q; cases q⟩
theorem SqAt.off {k : Bool} {h h' : Heap} {a b : Addr} {xs : Array Value} (x : SqAt k h a xs) (e : Heap.ExtBut b h h') (n : a ≠ b) : SqAt k h' a xs := by
  cases k
  · exact Heap.IsList.extBut (show h.IsList a xs from x) e n
  · exact Heap.IsTuple.extBut (show h.IsTuple a xs from x) e n
theorem SqAt.lt {k : Bool} {h : Heap} {a : Addr} {xs : Array Value} (x : SqAt k h a xs) : a < h.objs.size := by
  cases k
  · obtain ⟨o, e, _⟩ := (show h.IsList a xs from x)
    exact Heap.lt_size e
  · obtain ⟨o, e, _⟩ := (show h.IsTuple a xs from x)
    exact Heap.lt_size e
section
variable {P : Program} {w : World} {A : Around} {E : Value → Shared → Prop} {s : Shared}
theorem draw_item {k : Bool} {it l : Addr} {i : Nat} {xs : Array Value} {x : Value} {Q : Value → Shared → Prop} (a : ItAt k s.heap it l i) (b : SqAt k s.heap l xs) (hx : xs[i]? = some x)
    (q : ∀ h', ItAt k h' it l (i + 1) → Heap.SameBut it s.heap h' → Q x { s with heap := h' }) : wpAny (model P w) A (Builtin.SmallTypes.nextOf (.ref it)) Q E s := by
  cases k
  · exact wpAny_nextOf_list_item (show s.heap.IsListIter it l i from a) (show s.heap.IsList l xs from b) hx q
  · exact RZ.nextOf_tuple_item (show s.heap.IsTupleIter it l i from a) (show s.heap.IsTuple l xs from b) hx q
theorem draw_end {k : Bool} {it l : Addr} {i : Nat} {xs : Array Value} {Q : Value → Shared → Prop} (calm : A.handled = none) (a : ItAt k s.heap it l i) (b : SqAt k s.heap l xs) (hx : xs[i]? = none)
    (q : ∀ h' e, Heap.ExtBut it s.heap h' → (∃ o, h'.get? e = some o ∧ o.cls = .type "StopIteration") → E (.ref e) { s with heap := h' }) : wpAny (model P w) A (Builtin.SmallTypes.nextOf (.ref it)) Q E s := by
  cases k
  · exact wpAny_nextOf_list_end calm (show s.heap.IsListIter it l i from a) (show s.heap.IsList l xs from b) hx q
  · exact RZ.nextOf_tuple_end calm (show s.heap.IsTupleIter it l i from a) (show s.heap.IsTuple l xs from b) hx q
/-- a zip object z over the iterators i1, i2 -/
structure ZAt (h : Heap) (z TI TO i1 i2 : Addr) (a b : Value) : Prop where
  z : IsZip h z TI TO .none
  ti : IsPair h TI (.ref i1) (.ref i2)
  to : IsPair h TO a b
theorem mix_item {k1 k2 : Bool} {z TI TO i1 i2 l1 l2 : Addr} {n : Nat} {xs ys : Array Value} {x y a b : Value} {Q : Value → Shared → Prop} (D : ZipApart z TI TO i1 i2 l1 l2) (Z : ZAt s.heap z TI TO i1 i2 a b)
    (p1 : ItAt k1 s.heap i1 l1 n) (p2 : ItAt k2 s.heap i2 l2 n) (q1 : SqAt k1 s.heap l1 xs) (q2 : SqAt k2 s.heap l2 ys) (hx : xs[n]? = some x) (hy : ys[n]? = some y)
    (fin : ∀ h', IsZip h' z TI TO (rawInt s.heap.objs.size) → IsPair h' TO x y → ItAt k1 h' i1 l1 (n + 1) → ItAt k2 h' i2 l2 (n + 1) → IsPair h' s.heap.objs.size x y → (∀ c o, c ≠ z → c ≠ TO → c ≠ i1 → c ≠ i2 → s.heap.get? c = some o → h'.get? c = some o) → Q (.ref s.heap.objs.size) { s with heap := h' }) :
    wpAny (model P w) A (Builtin.«zip.__next__» ⟨[.ref z], []⟩) (fun f z' => ∃ v, f = .done (.ret v) ∧ Q v z') E s := by
  obtain ⟨hz, hTI, hTO⟩ := Z
  show wpAny _ _ (field (.ref z) 2 >>= _) _ _ _
  refine wpAny_bind (wpAny_field hz rfl (x := .bool false) rfl ?_)
  show wpAny _ _ (field (.ref z) 3 >>= _) _ _ _
  refine wpAny_bind (wpAny_field hz rfl (x := .ref TI) rfl ?_)
  refine wpAny_bind (wpAny_seqItems hTI rfl ?_)
  show wpAny _ _ (Builtin.SmallTypes.ownedTupleIsFree (.ref z) >>= _) _ _ _
  refine wpAny_bind ?_
  unfold Builtin.SmallTypes.ownedTupleIsFree
  refine wpAny_bind (wpAny_field hz rfl (x := .none) rfl (wpAny_pure ?_))
  simp only [if_true]
  refine wpAny_bind (wpAny_rule ?_)
  refine wpAny_bind (wpAny_field hz rfl (x := .ref TO) rfl ?_)
  refine wpAny_bind (wpAny_setField_rec hz (by simp) fun ha za sa => ?_)
  replace za : IsZip ha z TI TO .ellipsis := za
  refine wpAny_bind ?_
  simp only [List.zipIdx_cons, List.zipIdx_nil, List.forIn_cons, List.forIn_nil]
  refine wpAny_bind (wpAny_bind (wpAny_onRaise ?_))
  show wpAny _ _ (Builtin.SmallTypes.nextOf (.ref i1) >>= _) _ _ _
  refine wpAny_bind (draw_item (p1.off sa.extBut D.i1z) (q1.off sa.extBut D.l1z) hx fun hb pb sb => wpAny_pure ?_)
  have tb : IsPair hb TO a b := sb.extBut _ _ D.TOi1 (sa.extBut _ _ D.TOz hTO)
  refine wpAny_bind (wpAny_seqItems tb rfl ?_)
  refine wpAny_bind (wpAny_updateSeq_pair tb fun hc tc sc => ?_)
  replace tc : IsPair hc TO x b := tc
  refine wpAny_bind (wpAny_letGo (wpAny_pure ?_))
  refine wpAny_bind (wpAny_bind (wpAny_onRaise ?_))
  show wpAny _ _ (Builtin.SmallTypes.nextOf (.ref i2) >>= _) _ _ _
  have p2c := ((p2.off sa.extBut D.i2z).off sb.extBut D.i12.symm).off sc.extBut D.TOi2.symm
  have q2c := ((q2.off sa.extBut D.l2z).off sb.extBut D.l2i1).off sc.extBut D.l2TO
  refine wpAny_bind (draw_item p2c q2c hy fun hd pd sd => wpAny_pure ?_)
  have td : IsPair hd TO x b := sd.extBut _ _ D.TOi2 tc
  refine wpAny_bind (wpAny_seqItems td rfl ?_)
  refine wpAny_bind (wpAny_updateSeq_pair td fun he te se => ?_)
  replace te : IsPair he TO x y := te
  refine wpAny_bind (wpAny_letGo (wpAny_pure (wpAny_pure ?_)))
  refine wpAny_bind (wpAny_seqItems te rfl ?_)
  refine wpAny_bind (wpAny_newTuple ?_)
  have size : he.objs.size = s.heap.objs.size := by rw [se.1, sd.1, sc.1, sb.1, sa.1]
  have ze : IsZip he z TI TO .ellipsis := se.extBut _ _ D.TOz.symm (sd.extBut _ _ D.i2z.symm (sc.extBut _ _ D.TOz.symm (sb.extBut _ _ D.i1z.symm za)))
  have rest : ∀ c o, c ≠ z → c ≠ TO → c ≠ i1 → c ≠ i2 → s.heap.get? c = some o → he.get? c = some o := fun c o c1 c2 c3 c4 g => se.extBut _ _ c2 (sd.extBut _ _ c4 (sc.extBut _ _ c2 (sb.extBut _ _ c3 (sa.extBut _ _ c1 g))))
  have p1e : ItAt k1 he i1 l1 (n + 1) := ((pb.off sc.extBut D.TOi1.symm).off sd.extBut D.i12).off se.extBut D.TOi1.symm
  have p2e : ItAt k2 he i2 l2 (n + 1) := pd.off se.extBut D.TOi2.symm
  have zlt : z < he.objs.size := Heap.lt_size ze
  show wpAny _ _ (Builtin.SmallTypes.ownedTupleHandOut (.ref z) (.ref he.objs.size) >>= _) _ _ _
  refine wpAny_bind ?_
  unfold Builtin.SmallTypes.ownedTupleHandOut
  have zf : IsZip (he.push { cls := .type "tuple", data := .seq #[x, y] }) z TI TO .ellipsis := Heap.get?_push_of_some _ ze
  refine wpAny_bind (wpAny_setField_rec zf (by simp) fun hg zg sg => ?_)
  replace zg : IsZip hg z TI TO (rawInt he.objs.size) := zg
  refine wpAny_setField_rec zg (by simp) fun hh zh sh => ?_
  replace zh : IsZip hh z TI TO (rawInt he.objs.size) := zh
  have up : ∀ c o, c ≠ z → he.get? c = some o → hh.get? c = some o := fun c o c1 g => sh.extBut _ _ c1 (sg.extBut _ _ c1 (Heap.get?_push_of_some _ g))
  have th : IsPair hh he.objs.size x y := sh.extBut _ _ (Nat.ne_of_gt zlt) (sg.extBut _ _ (Nat.ne_of_gt zlt) (Heap.get?_push_size _ rfl))
  rw [size] at zh th
  refine wpAny_pure ⟨_, rfl, ?_⟩
  show Q (.ref he.objs.size) _
  rw [size]
  exact fin hh zh (up _ _ D.TOz te) (p1e.on fun o g => up _ o D.i1z g) (p2e.on fun o g => up _ o D.i2z g) th fun c o c1 c2 c3 c4 g => up c o c1 (rest c o c1 c2 c3 c4 g)
theorem mix_end {k1 k2 : Bool} {z TI TO i1 i2 l1 l2 : Addr} {n : Nat} {xs ys : Array Value} {a b : Value} {Q : Fin → Shared → Prop} (calm : A.handled = none) (D : ZipApart z TI TO i1 i2 l1 l2) (Z : ZAt s.heap z TI TO i1 i2 a b)
    (p1 : ItAt k1 s.heap i1 l1 n) (p2 : ItAt k2 s.heap i2 l2 n) (q1 : SqAt k1 s.heap l1 xs) (q2 : SqAt k2 s.heap l2 ys) (stop : xs[n]? = none ∨ ys[n]? = none)
    (fin : ∀ h' e, (∀ c o, c ≠ z → c ≠ TO → c ≠ i1 → c ≠ i2 → s.heap.get? c = some o → h'.get? c = some o) → (∃ o, h'.get? e = some o ∧ o.cls = .type "StopIteration") → E (.ref e) { s with heap := h' }) :
    wpAny (model P w) A (Builtin.«zip.__next__» ⟨[.ref z], []⟩) Q E s := by
  obtain ⟨hz, hTI, hTO⟩ := Z
  show wpAny _ _ (field (.ref z) 2 >>= _) _ _ _
  refine wpAny_bind (wpAny_field hz rfl (x := .bool false) rfl ?_)
  show wpAny _ _ (field (.ref z) 3 >>= _) _ _ _
  refine wpAny_bind (wpAny_field hz rfl (x := .ref TI) rfl ?_)
  refine wpAny_bind (wpAny_seqItems hTI rfl ?_)
  show wpAny _ _ (Builtin.SmallTypes.ownedTupleIsFree (.ref z) >>= _) _ _ _
  refine wpAny_bind ?_
  unfold Builtin.SmallTypes.ownedTupleIsFree
  refine wpAny_bind (wpAny_field hz rfl (x := .none) rfl (wpAny_pure ?_))
  simp only [if_true]
  refine wpAny_bind (wpAny_rule ?_)
  refine wpAny_bind (wpAny_field hz rfl (x := .ref TO) rfl ?_)
  refine wpAny_bind (wpAny_setField_rec hz (by simp) fun ha za sa => ?_)
  replace za : IsZip ha z TI TO .ellipsis := za
  refine wpAny_bind ?_
  simp only [List.zipIdx_cons, List.zipIdx_nil, List.forIn_cons, List.forIn_nil]
  refine wpAny_bind (wpAny_bind (wpAny_onRaise ?_))
  show wpAny _ _ (Builtin.SmallTypes.nextOf (.ref i1) >>= _) _ _ _
  have p1a := p1.off sa.extBut D.i1z
  have q1a := q1.off sa.extBut D.l1z
  cases hx : xs[n]? with
  | none =>
    refine wpAny_bind (draw_end calm p1a q1a hx fun hb e sb he => ?_)
    obtain ⟨oe, oe1, oe2⟩ := he
    have zb : IsZip hb z TI TO .ellipsis := sb _ _ D.i1z.symm za
    have ne : e ≠ z := fun q => by subst q; rw [zb] at oe1; cases oe1; simp at oe2
    refine wpAny_setField_rec zb (by simp) fun hc _ sc => fin hc e (fun c o c1 _ c3 _ g => sc.extBut _ _ c1 (sb _ _ c3 (sa.extBut _ _ c1 g))) ⟨oe, sc.extBut _ _ ne oe1, oe2⟩
  | some x =>
    have hy : ys[n]? = none := by
      rcases stop with q | q
      · rw [hx] at q; cases q
      · exact q
    refine wpAny_bind (draw_item p1a q1a hx fun hb pb sb => wpAny_pure ?_)
    have tb : IsPair hb TO a b := sb.extBut _ _ D.TOi1 (sa.extBut _ _ D.TOz hTO)
    refine wpAny_bind (wpAny_seqItems tb rfl ?_)
    refine wpAny_bind (wpAny_updateSeq_pair tb fun hc tc sc => ?_)
    refine wpAny_bind (wpAny_letGo (wpAny_pure ?_))
    refine wpAny_bind (wpAny_bind (wpAny_onRaise ?_))
    show wpAny _ _ (Builtin.SmallTypes.nextOf (.ref i2) >>= _) _ _ _
    have p2c := ((p2.off sa.extBut D.i2z).off sb.extBut D.i12.symm).off sc.extBut D.TOi2.symm
    have q2c := ((q2.off sa.extBut D.l2z).off sb.extBut D.l2i1).off sc.extBut D.l2TO
    refine wpAny_bind (draw_end calm p2c q2c hy fun hd e sd he => ?_)
    obtain ⟨oe, oe1, oe2⟩ := he
    have zd : IsZip hd z TI TO .ellipsis := sd _ _ D.i2z.symm (sc.extBut _ _ D.TOz.symm (sb.extBut _ _ D.i1z.symm za))
    have ne : e ≠ z := fun q => by subst q; rw [zd] at oe1; cases oe1; simp at oe2
    refine wpAny_setField_rec zd (by simp) fun hf _ sf => fin hf e (fun c o c1 c2 c3 c4 g => sf.extBut _ _ c1 (sd _ _ c4 (sc.extBut _ _ c2 (sb.extBut _ _ c3 (sa.extBut _ _ c1 g))))) ⟨oe, sf.extBut _ _ ne oe1, oe2⟩
theorem next_mix {k1 k2 : Bool} {z TI TO i1 i2 l1 l2 : Addr} {n : Nat} {xs ys : Array Value} {x y a b : Value} {Q : Option Value → Shared → Prop} (D : ZipApart z TI TO i1 i2 l1 l2) (Z : ZAt s.heap z TI TO i1 i2 a b)
    (p1 : ItAt k1 s.heap i1 l1 n) (p2 : ItAt k2 s.heap i2 l2 n) (q1 : SqAt k1 s.heap l1 xs) (q2 : SqAt k2 s.heap l2 ys) (hx : xs[n]? = some x) (hy : ys[n]? = some y)
    (fin : ∀ h', IsZip h' z TI TO (rawInt s.heap.objs.size) → IsPair h' TO x y → ItAt k1 h' i1 l1 (n + 1) → ItAt k2 h' i2 l2 (n + 1) → IsPair h' s.heap.objs.size x y → (∀ c o, c ≠ z → c ≠ TO → c ≠ i1 → c ≠ i2 → s.heap.get? c = some o → h'.get? c = some o) → Q (some (.ref s.heap.objs.size)) { s with heap := h' }) :
    wpAny (model P w) A (pyNext (.ref z)) Q E s := by
  have hT : s.TypeIs (.ref z) "zip" := ⟨_, Z.z, rfl⟩
  unfold pyNext
  refine wpAny_bind (wpAny_attempt (wpAny_callSpecial?_slot (name := Str.ofString "__next__") hT F.slot_zip_next (wpAny_call_entry F.slot_zip_next hT F.entry_zip_next ?_ (F.args_zip_next_1 _))))
  exact mix_item D Z p1 p2 q1 q2 hx hy fun h' a1 a2 a3 a4 a5 a6 => wpAny_pure (fin h' a1 a2 a3 a4 a5 a6)
theorem stop_mix {k1 k2 : Bool} {z TI TO i1 i2 l1 l2 : Addr} {n : Nat} {xs ys : Array Value} {a b : Value} {Q : Option Value → Shared → Prop} (calm : A.handled = none) (D : ZipApart z TI TO i1 i2 l1 l2) (Z : ZAt s.heap z TI TO i1 i2 a b)
    (p1 : ItAt k1 s.heap i1 l1 n) (p2 : ItAt k2 s.heap i2 l2 n) (q1 : SqAt k1 s.heap l1 xs) (q2 : SqAt k2 s.heap l2 ys) (stop : xs[n]? = none ∨ ys[n]? = none)
    (fin : ∀ h', (∀ c o, c ≠ z → c ≠ TO → c ≠ i1 → c ≠ i2 → s.heap.get? c = some o → h'.get? c = some o) → Q none { s with heap := h' }) : wpAny (model P w) A (pyNext (.ref z)) Q E s := by
  have hT : s.TypeIs (.ref z) "zip" := ⟨_, Z.z, rfl⟩
  unfold pyNext
  refine wpAny_bind (wpAny_attempt (wpAny_callSpecial?_slot (name := Str.ofString "__next__") hT F.slot_zip_next (wpAny_call_entry F.slot_zip_next hT F.entry_zip_next (mix_end calm D Z p1 p2 q1 q2 stop fun h' e rest he => ?_) (F.args_zip_next_1 _))))
  obtain ⟨o, o1, o2⟩ := he
  exact wpAny_bind (wpAny_isInstance (T := "StopIteration") (b := true) ⟨o, o1, o2⟩ isSubtype_stop (wpAny_pure (fin _ rest)))
end
/-! making it -/
abbrev hM1 (h : Heap) (l1 : Addr) : Heap := h.push { cls := .type "tuple_iterator", data := .fields #[.ref l1, .int 0 0] }
abbrev hM2 (h : Heap) (l1 l2 : Addr) : Heap := (hM1 h l1).push { cls := .type "list_iterator", data := .fields #[.ref l2, .int 0 0] }
abbrev hM3 (h : Heap) (l1 l2 : Addr) : Heap := (hM2 h l1 l2).push { cls := .type "tuple", data := .seq #[.ref h.objs.size, .ref (hM1 h l1).objs.size] }
abbrev hM4 (h : Heap) (l1 l2 : Addr) : Heap := (hM3 h l1 l2).push { cls := .type "tuple", data := .seq #[.none, .none] }
abbrev hM5 (h : Heap) (l1 l2 : Addr) : Heap := (hM4 h l1 l2).push { cls := .type "zip", data := .fields #[.none, .bool false, .bool false, .ref (hM2 h l1 l2).objs.size, .ref (hM3 h l1 l2).objs.size] }
theorem makes_mix (l1 l2 : Addr) (xs ys : Array Value) : Meets (Builtin.«zip.__new__» ⟨[.type "zip", .ref l1, .ref l2], []⟩) (fun _ R s => s.heap.IsTuple l1 xs ∧ s.heap.IsList l2 ys ∧ R (.ok (.ret (.ref (hM4 s.heap l1 l2).objs.size))) { s with heap := hM5 s.heap l1 l2 }) :=
  .of_wp fun prog w A R s h => by
    obtain ⟨hp, g, d, tk, os⟩ := s
    obtain ⟨t1, t2, h⟩ := h
    have sub := sub_zip
    have u1 : Heap.IsTuple (Shared.heap ⟨hp, g, d, tk, os⟩) l1 xs := t1
    have u2 : Heap.IsList (Shared.heap ⟨hM1 hp l1, g, d, tk, os⟩) l2 ys := Heap.IsList.push t2 _
    wp_walk using wpAny_pyIter_tuple u1, wpAny_pyIter_list u2
    exact ⟨_, rfl, h⟩
/-- what a new zip is -/
def NewZip (k1 k2 : Bool) (h h' : Heap) (l1 l2 : Addr) : Prop := ZAt h' (h.objs.size + 4) (h.objs.size + 2) (h.objs.size + 3) h.objs.size (h.objs.size + 1) .none .none ∧ ItAt k1 h' h.objs.size l1 0 ∧ ItAt k2 h' (h.objs.size + 1) l2 0 ∧ ∀ c o, h.get? c = some o → h'.get? c = some o
section
variable {P : Program} {w : World} {A : Around} {E : Value → Shared → Prop} {s : Shared}
theorem call_mix {k1 k2 : Bool} {l1 l2 : Addr} {xs ys : Array Value} {Q : Value → Shared → Prop} (a : SqAt k1 s.heap l1 xs) (b : SqAt k2 s.heap l2 ys) (hk : k1 = true ∨ k2 = false) (fin : ∀ h', NewZip k1 k2 s.heap h' l1 l2 → Q (.ref (s.heap.objs.size + 4)) { s with heap := h' }) :
    wpAny (model P w) A (call (.type "zip") [.ref l1, .ref l2]) Q E s := by
  cases k1
  · have e : k2 = false := by
      rcases hk with h | h
      · cases h
      · exact h
    subst e
    exact call_zip_2 (show s.heap.IsList l1 xs from a) (show s.heap.IsList l2 ys from b) fun h' z ti to i1 i2 _ keep => fin h' ⟨⟨z, ti, to⟩, i1, i2, keep⟩
  · cases k2
    · refine callType_new F.called_zip (by decide) (F.typeCall_zip_2 _ _) (F.newCall_zip_2 _ _) (fun o => F.args_object_init_3 o _ _) F.entry_zip_new (makes_mix l1 l2 xs ys) ⟨show s.heap.IsTuple l1 xs from a, show s.heap.IsList l2 ys from b, ?_⟩
      have z1 : (hM1 s.heap l1).objs.size = s.heap.objs.size + 1 := Heap.size_push ..
      have z2 : (hM2 s.heap l1 l2).objs.size = s.heap.objs.size + 2 := by rw [Heap.size_push, z1]
      have z3 : (hM3 s.heap l1 l2).objs.size = s.heap.objs.size + 3 := by rw [Heap.size_push, z2]
      have z4 : (hM4 s.heap l1 l2).objs.size = s.heap.objs.size + 4 := by rw [Heap.size_push, z3]
      have g5 : (hM5 s.heap l1 l2).get? (hM4 s.heap l1 l2).objs.size = some _ := Heap.get?_push_size _ rfl
      have g4 : (hM5 s.heap l1 l2).get? (hM3 s.heap l1 l2).objs.size = some _ := Heap.get?_push_of_some _ (Heap.get?_push_size _ rfl)
      have g3 : (hM5 s.heap l1 l2).get? (hM2 s.heap l1 l2).objs.size = some _ := Heap.get?_push_of_some _ (Heap.get?_push_of_some _ (Heap.get?_push_size _ rfl))
      have g2 : (hM5 s.heap l1 l2).get? (hM1 s.heap l1).objs.size = some _ := Heap.get?_push_of_some _ (Heap.get?_push_of_some _ (Heap.get?_push_of_some _ (Heap.get?_push_size _ rfl)))
      have g1 : (hM5 s.heap l1 l2).get? s.heap.objs.size = some _ := Heap.get?_push_of_some _ (Heap.get?_push_of_some _ (Heap.get?_push_of_some _ (Heap.get?_push_of_some _ (Heap.get?_push_size _ rfl))))
      show _ ∧ _
      rw [z2, z3, z4] at g5
      rw [z1, z2] at g3
      rw [z3] at g4
      rw [z1] at g2
      rw [z4]
      refine ⟨⟨_, g5, rfl⟩, fin _ ⟨⟨g5, g3, g4⟩, ⟨_, g1, rfl, rfl⟩, ⟨_, g2, rfl, rfl⟩, fun c o x => ?_⟩⟩
      exact Heap.get?_push_of_some _ (Heap.get?_push_of_some _ (Heap.get?_push_of_some _ (Heap.get?_push_of_some _ (Heap.get?_push_of_some _ x))))
    · exact RZ.call_zipT (show s.heap.IsTuple l1 xs from a) (show s.heap.IsTuple l2 ys from b) fun h' z ti to i1 i2 _ keep => fin h' ⟨⟨z, ti, to⟩, i1, i2, keep⟩
end
/-! as turns -/
def SqK (K : PySem.W.Frag) (k : Bool) (H : Hp) (a : Addr) (xs : List V) : Prop := if k = true then SqT K H a xs else SqL K H a xs
theorem SqK.held {X : Cx} {pins : List (Addr × Obj)} {σ : L2.St} {H : Hp} {s : Shared} (I : Inv X pins σ H s) {k : Bool} {a : Addr} {xs : List V} (h : SqK X.K k H a xs) : ∃ its : List Value, Vals xs its ∧ SqAt k s.heap a its.toArray := by
  cases k
  · obtain ⟨its, r, p, _⟩ := I.list (show SqL X.K H a xs from h)
    exact ⟨its, r, p.isList⟩
  · obtain ⟨its, r, p, _⟩ := I.tuple (show SqT X.K H a xs from h)
    exact ⟨its, r, p⟩
/-- pairs of the items of xs and ys, which stand at a and b -/
def ItZ (K : PySem.W.Frag) (k1 k2 : Bool) (a b : Addr) (xs ys : List V) : It :=
  ⟨fun i H => SqK K k1 H a xs ∧ SqK K k2 H b ys ∧ i < xs.length ∧ i < ys.length,
    fun i H v H' => ∃ T x y, v = .ref T ∧ H T = none ∧ H' = upd H T (.tup [x, y]) ∧ xs[i]? = some x ∧ ys[i]? = some y,
    fun i H => SqK K k1 H a xs ∧ SqK K k2 H b ys ∧ (xs.length ≤ i ∨ ys.length ≤ i)⟩
theorem turn_mix {P : Program} {w : World} {K : PySem.W.Frag} {elts : List Expr} {kk : Nat} {tpos : Pos} {k1 k2 : Bool} {a b z TI TO i1 i2 : Addr} {xs ys : List V} (D : ZipApart z TI TO i1 i2 a b) :
    Turn P w K (.Tuple elts kk tpos) (ItZ K k1 k2 a b xs ys) [z, TI, TO, i1, i2] z (fun i h => ∃ x y, ZAt h z TI TO i1 i2 x y ∧ ItAt k1 h i1 a i ∧ ItAt k2 h i2 b i) where
  mem := by simp
  obj := fun i h st c hc => by
    obtain ⟨x, y, Z, p1, p2⟩ := st
    have e : c = z ∨ c = TI ∨ c = TO ∨ c = i1 ∨ c = i2 := by simpa using hc
    rcases e with e | e | e | e | e
    · rw [e]; exact ⟨_, Z.z, fun v q => nomatch q⟩
    · rw [e]; exact ⟨_, Z.ti, fun v q => nomatch q⟩
    · rw [e]; exact ⟨_, Z.to, fun v q => nomatch q⟩
    · rw [e]; exact p1.obj
    · rw [e]; exact p2.obj
  keep := fun i h h' st k => by
    obtain ⟨x, y, Z, p1, p2⟩ := st
    exact ⟨x, y, ⟨k z (by simp) _ Z.z, k TI (by simp) _ Z.ti, k TO (by simp) _ Z.to⟩, p1.on fun o q => k i1 (by simp) o q, p2.on fun o q => k i2 (by simp) o q⟩
  item := by
    intro X hP hw hK hc i pins s σ H E I hf st hg
    subst hP hw hK
    obtain ⟨x0, y0, Z, p1, p2⟩ := st
    obtain ⟨qa, qb, la, lb⟩ := hg
    obtain ⟨us, ru, ha⟩ := qa.held I
    obtain ⟨vs, rv, hb⟩ := qb.held I
    have hx : xs[i]? = some xs[i] := List.getElem?_eq_getElem la
    have hy : ys[i]? = some ys[i] := List.getElem?_eq_getElem lb
    generalize xs[i] = x at hx
    generalize ys[i] = y at hy
    obtain ⟨u, hu, r1⟩ := ru.get hx
    obtain ⟨v, hv, r2⟩ := rv.get hy
    have zlt : z < s.heap.objs.size := Heap.lt_size Z.z
    have zti := Z.ti
    obtain ⟨o1, g1, _⟩ := p1.obj
    obtain ⟨o2, g2, _⟩ := p2.obj
    have tolt := Heap.lt_size Z.to
    refine next_mix D Z p1 p2 ha hb (x := u) (y := v) (by simpa using hu) (by simpa using hv) fun h' z' to' q1 q2 hT hk => ?_
    refine ⟨_, rfl, wpAny_letOwnedTupleGo_zip (s := { s with heap := h' }) z' fun h2 z2 sb => ?_⟩
    have hT2 : h2.get? s.heap.objs.size = some { cls := .type "tuple", data := .seq #[u, v] } := (sb.2 _ (Nat.ne_of_gt zlt)).trans hT
    have new : ObjOk X.prog X.w (upd H s.heap.objs.size (.tup [x, y])) h2 s.heap.objs.size (.tup [x, y]) := ⟨by show 2 ≤ sizeLine; decide, [u, v], .cons r1 (.cons r2 .nil), ⟨_, hT2, rfl, _, rfl⟩⟩
    have outs : ∀ c, c ∉ [z, TI, TO, i1, i2] → ∀ o, s.heap.get? c = some o → h2.get? c = some o := fun c hb o q => (sb.2 c (fun e => hb (by simp [e]))).trans (hk c o (fun e => hb (by simp [e])) (fun e => hb (by simp [e])) (fun e => hb (by simp [e])) (fun e => hb (by simp [e])) q)
    have I1 : Inv X pins σ (upd H s.heap.objs.size (.tup [x, y])) { s with heap := h2 } := I.turnedNew (t' := s.toks) (ch := [z, TI, TO, i1, i2]) (fun c o hb q => outs c hb o q) hf (Nat.le_refl _) new
    have ti2 : IsPair h2 TI (.ref i1) (.ref i2) := (sb.2 _ D.TIz).trans (hk _ _ D.TIz D.TITO D.TIi1 D.TIi2 zti)
    refine ⟨.ref s.heap.objs.size, _, I1, rfl, ⟨_, x, y, rfl, I.hok.fresh (Nat.le_refl _), rfl, hx, hy⟩, ⟨u, v, ⟨z2, ti2, (sb.2 _ D.TOz).trans to'⟩, q1.on fun o q => (sb.2 _ D.i1z).trans q, q2.on fun o q => (sb.2 _ D.i2z).trans q⟩, fun c hcm => ?_⟩
    have lt : c < s.heap.objs.size := by
      have e : c = z ∨ c = TI ∨ c = TO ∨ c = i1 ∨ c = i2 := by simpa using hcm
      rcases e with e | e | e | e | e
      · rw [e]; exact zlt
      · rw [e]; exact Heap.lt_size zti
      · rw [e]; exact tolt
      · rw [e]; exact Heap.lt_size g1
      · rw [e]; exact Heap.lt_size g2
    rw [upd_ne (Nat.ne_of_lt lt)]
    exact (hf c hcm).1
  done := by
    intro X hP hw hK hc i pins s σ H E I hf st hg
    subst hP hw hK
    obtain ⟨x0, y0, Z, p1, p2⟩ := st
    obtain ⟨qa, qb, stop⟩ := hg
    obtain ⟨us, ru, ha⟩ := qa.held I
    obtain ⟨vs, rv, hb⟩ := qb.held I
    have l1 := ru.length
    have l2 := rv.length
    have e : us.toArray[i]? = none ∨ vs.toArray[i]? = none := by
      rcases stop with q | q
      · exact .inl (by simp; omega)
      · exact .inr (by simp; omega)
    refine stop_mix (I.ok.hd hc) D Z p1 p2 ha hb e fun h' hk => ⟨rfl, ?_⟩
    exact I.turnedL (t' := s.toks) (ch := [z, TI, TO, i1, i2]) (fun c o hb q => hk c o (fun e => hb (by simp [e])) (fun e => hb (by simp [e])) (fun e => hb (by simp [e])) (fun e => hb (by simp [e])) q) hf
  self := fun A i s Q E st h => by
    obtain ⟨x, y, Z, _⟩ := st
    exact wpAny_pyIter_zip Z.z h
def iZm (K : PySem.W.Frag) (ta : TA) : TI := fun σ H R => ta σ H fun vs H1 => ∃ k1 k2 a b xs ys, vs = [.ref a, .ref b] ∧ SqK K k1 H1 a xs ∧ SqK K k2 H1 b ys ∧ (k1 = true ∨ k2 = false) ∧ R (ItZ K k1 k2 a b xs ys) H1
theorem pi_zm {X : Cx} {K : PySem.W.Frag} {e e2 : Expr} {ta : TA} {p pos tpos : Pos} {elts : List Expr} {kk : Nat} (hK : X.K = K) (hg : Gl X "zip") (hm : X.mg "zip" = none) (ha : PA X [e, e2] ta)
    (hs : starEach [e, e2] X.env = (false, eval e X.env) :: starEach [e2] X.env := by rfl) (hpl : (backTo pos (starEach [e2] X.env)).any (·.1) = false := by rfl) :
    PI X (.Tuple elts kk tpos) (.Call (.Name "zip" p) [e, e2] [] pos) (iZm K ta) := by
  subst hK
  refine ⟨fun pins s σ H R I h => ?_⟩
  refine Call_ (ld_blt I hg hm PyProof.Rows.boot_zip (PyProof.Rows.callWith_type1 (thn (ha.run pos pins s σ H _ I h) fun us s1 ⟨vs, H1, I1, r1, q1⟩ => ?_) hs hpl))
  obtain ⟨k1, k2, a, b, xs, ys, ev, qa, qb, kk', q⟩ := q1
  subst ev
  cases r1 with
  | cons r rr =>
    cases rr with
    | cons r' rr =>
      cases rr
      cases r
      cases r'
      obtain ⟨us, _, h1⟩ := qa.held I1
      obtain ⟨vs, _, h2⟩ := qb.held I1
      refine call_mix h1 h2 kk' fun h' ⟨Z, p1, p2, keep⟩ => wpAny_pyIter_zip Z.z ?_
      have I2 : Inv X pins σ H1 { s1 with heap := h' } := I1.kept (t' := s1.toks) keep
      refine ⟨s1.heap.objs.size + 4, [s1.heap.objs.size + 4, s1.heap.objs.size + 2, s1.heap.objs.size + 3, s1.heap.objs.size, s1.heap.objs.size + 1], _, _, H1, rfl, I2, turn_mix (PySem.W.ktu_apart s1.heap.objs.size a b h1.lt h2.lt), ⟨_, _, Z, p1, p2⟩, fun c hcm => ?_, q⟩
      have le : s1.heap.objs.size ≤ c := by
        have e : c = s1.heap.objs.size + 4 ∨ c = s1.heap.objs.size + 2 ∨ c = s1.heap.objs.size + 3 ∨ c = s1.heap.objs.size ∨ c = s1.heap.objs.size + 1 := by simpa using hcm
        rcases e with e | e | e | e | e <;> rw [e] <;> first | exact Nat.le_refl _ | exact Nat.le_add_right _ _
      exact I1.fpOk le (I1.hok.fresh le)

/-! ### methods of instances with a dict, instances called, where what is raised is wished for at the caller's slots -/
/-- the receiver, then the arguments -/
def tRecvD (C : Addr) (m : Str) (ta : TE) (t : TA) : TA := fun σ H Q => ta σ H fun x H1 => ∃ a dx fs, x = .ref a ∧ H1 a = some (.ins C dx fs) ∧ fs.lookup m = none ∧ t σ H1 fun ws H2 => Q (x :: ws) H2
def tMethD (C : Addr) (m : Str) (sp : Sp) (E : L2.St → XK) (ta : TE) (t : TA) : TE := fun σ H Q => tRecvD C m ta t σ H fun vs H2 => sp vs H2 Q (E σ)
def tRecvO (C : Addr) (ta : TE) (t : TA) : TA := fun σ H Q => ta σ H fun x H1 => ∃ a, x = .ref a ∧ t σ H1 fun ws H2 => (∃ dx fs, H2 a = some (.ins C dx fs)) ∧ Q (x :: ws) H2
def tCallOD (C : Addr) (sp : Sp) (E : L2.St → XK) (ta : TE) (t : TA) : TE := fun σ H Q => tRecvO C ta t σ H fun vs H2 => sp vs H2 Q (E σ)
section
variable {X : Cx} {CX : CXT} {k : Nat} {C g : Addr} {sp : Sp} {E : L2.St → XK} {o e : Expr} {es : List Expr} {m : Str} {pos apos : Pos} {ta : TE} {t : TA}
theorem pe_methD {pl : Sem Bool} (he : PE X o ta) (c : Cls X.K C) (hm : Meth X.K C m g) (F : FnR X.prog X.w X.K X.mg X.base CX k g sp) (hr : Room k X.A) (hx : ∀ σ, PassesAt CX X σ (E σ)) (ha : PA X (e :: es) t)
    (hst : starEach (e :: es) X.env = (false, eval e X.env) :: starEach es X.env := by rfl) (hpl : (backTo pos (starEach es X.env)).any (·.1) = false := by rfl)
    (ht : eval (.Call (.Attribute o m apos) (e :: es) [] pos) X.env = (do
      let ov ← eval o X.env
      standAt apos.atName
      let (f, first) ← holding [ov] (getMethod ov m pl)
      callWith pos f first (backTo pos (starEach (e :: es) X.env)) (backToKw pos (keywordEach [] X.env))) := by rfl) :
    PE X (.Call (.Attribute o m apos) (e :: es) [] pos) (tMethD C m sp E ta t) := by
  refine ⟨fun pins s σ H Q I h => ?_⟩
  refine PySem.W.methodCall_KW (pl := pl) (thn (he.run pins s σ H _ I h) fun u s1 ⟨x, H1, I1, rx, a, dx, fs, ex, hins, hl, q⟩ => ?_) ht
  subst ex
  obtain rfl : u = Value.ref a := rx
  refine getmeth_ok I1 hins c hm hl ?_
  refine PySem.W.callWith_K (first := [.ref a]) (h₀ := X.base) I.ok.mod.kin hm.kp (thn (ha.run pos pins s1 σ H1 _ I1 q) fun us s2 ⟨ws, H2, I2, r, q2⟩ => ⟨I2.kIn, ?_⟩) hst hpl
  exact wpAny_call (run_fnRS (us := .ref a :: us) (vs := .ref a :: ws) F hr (hx σ) I2 (.cons rfl r) q2)
theorem pe_methD0 {pl : Sem Bool} (he : PE X o ta) (c : Cls X.K C) (hm : Meth X.K C m g) (F : FnR X.prog X.w X.K X.mg X.base CX k g sp) (hr : Room k X.A) (hx : ∀ σ, PassesAt CX X σ (E σ))
    (ht : eval (.Call (.Attribute o m apos) [] [] pos) X.env = (do
      let ov ← eval o X.env
      standAt apos.atName
      let (f, first) ← holding [ov] (getMethod ov m pl)
      callWith pos f first (backTo pos (starEach [] X.env)) (backToKw pos (keywordEach [] X.env))) := by rfl) :
    PE X (.Call (.Attribute o m apos) [] [] pos) (tMethD C m sp E ta tNil) := by
  refine ⟨fun pins s σ H Q I h => ?_⟩
  refine PySem.W.methodCall_KW (pl := pl) (thn (he.run pins s σ H _ I h) fun u s1 ⟨x, H1, I1, rx, a, dx, fs, ex, hins, hl, q⟩ => ?_) ht
  subst ex
  obtain rfl : u = Value.ref a := rx
  refine getmeth_ok I1 hins c hm hl ?_
  exact PySem.W.callWith_K0 (first := [.ref a]) I1.kIn hm.kp (wpAny_call (run_fnRS (us := [.ref a]) (vs := [.ref a]) F hr (hx σ) I1 (.cons rfl .nil) q))
/-- an instance called -/
theorem pe_callOD {fe : Expr} (hf : PE X fe ta) (c : StX.CallO X.K C g) (F : FnR X.prog X.w X.K X.mg X.base CX k g sp) (hr : Room k X.A) (hx : ∀ σ, PassesAt CX X σ (E σ)) (ha : PA X (e :: es) t)
    (ht : eval (.Call fe (e :: es) [] pos) X.env = (do callWith pos (← eval fe X.env) [] (backTo pos (starEach (e :: es) X.env)) (backToKw pos (keywordEach [] X.env))) := by rfl)
    (he : starEach (e :: es) X.env = (false, eval e X.env) :: starEach es X.env := by rfl) (hpl : (backTo pos (starEach es X.env)).any (·.1) = false := by rfl) : PE X (.Call fe (e :: es) [] pos) (tCallOD C sp E ta t) := by
  refine ⟨fun pins s σ H Q I h => ?_⟩
  refine Call_ (thn (hf.run pins s σ H _ I h) fun u s1 ⟨y, H1, I1, ry, a, ey, q⟩ => ?_) ht
  subst ey
  obtain rfl : u = Value.ref a := ry
  refine StX.callO_with (thn (ha.run pos pins s1 σ H1 _ I1 q) fun us s2 ⟨vs, H2, I2, r, hi, q2⟩ => ?_) he hpl
  obtain ⟨ox, od, J, hd⟩ := StX.insC_at (X := X) I2 (.inr hi)
  exact ⟨⟨C, ox, od, J, hd⟩, wpAny_call (PySem.W.kco_code I2.kIn J hd c.at_ c.fn c.fi (run_fnRS (us := .ref a :: us) (vs := .ref a :: vs) F hr (hx σ) I2 (.cons rfl r) q2))⟩
end
section
variable {X : Cx} {K : PySem.W.Frag} {o e value : Expr} {f : Str} {pos pos' : Pos} {ta tv : TE}
theorem pe_fldK (hK : X.K = K) (he : PE X e ta) (hb : attributeBase e f X.env (eval e X.env) = eval e X.env := by rfl) : PE X (.Attribute e f pos) (tFld K ta f) := by
  subst hK
  exact pe_fld he hb
theorem ps_fldK (hK : X.K = K) (ha : PE X o ta) (hv : PE X value tv) (hs : swapsWith value (some (.Attribute o f pos')) pos.line X.env = pure false := by rfl) : PS X (.Assign [.Attribute o f pos'] value pos) (sFld K ta tv f) := by
  subst hK
  exact ps_fld ha hv hs
theorem cr_allK (hK : X.K = K) (hc : X.calm = true) : CallR X (.builtin "all") (rAll K) := by
  subst hK
  exact cr_all hc
end
/-- isinstance(e, (A, B)), e the caught error, which has fields -/
def rIsX2 (K : PySem.W.Frag) (D a : Addr) (cls : Value) (d : Option Addr) : List V → Hp → VK → Prop := fun xs H Q => ∃ (tp Y1 Y2 : Addr) (b : Bool) (dd : Addr) (fs : List (Str × V)),
  xs = [.ref a, .ref tp] ∧ cls = .ref D ∧ d = some dd ∧ H dd = some (.xd fs) ∧ H tp = some (.tup [.ref Y1, .ref Y2]) ∧ PySem.W.kitAny K (.ref D) [.ref Y1, .ref Y2] = some b ∧ Q (.bl b) H
theorem call_isX2 {X : Cx} {a D : Addr} {oe : Obj} {cls : Value} {d : Option Addr} {pn : List (Addr × Obj)} (C : IsC X.K D) (hz : Zc cls d oe) (hf : ∃ vs, oe.data = .fields vs) : CallR (X.suite a ((a, oe) :: pn)) (.builtin "isinstance") (rIsX2 X.K D a cls d) := fun pins s σ H xs us Q I r h => by
  obtain ⟨tp, Y1, Y2, b, dd, fs, ex, e1, e2, hx, hT, ek, q⟩ := h
  subst ex e1 e2
  obtain ⟨u1, u2, eu, rx, rt⟩ : ∃ u1 u2, us = [u1, u2] ∧ RelV (.ref a) u1 ∧ RelV (.ref tp) u2 := by
    cases r with
    | cons rx rr =>
      cases rr with
      | cons rt rr =>
        cases rr
        exact ⟨_, _, rfl, rx, rt⟩
  subst eu
  cases (show u1 = Value.ref a from rx)
  cases (show u2 = Value.ref tp from rt)
  have hg : s.heap.get? a = some oe := (I.pin (a, oe) (List.mem_append_left _ List.mem_cons_self)).1
  have hx' : ObjOk X.prog X.w H s.heap dd (.xd fs) := I.hok dd _ hx
  obtain ⟨mA, ⟨od, es, ep, hod, _⟩, _⟩ := hx'
  have J : PySem.W.InstAt s.heap a oe D (some od) := by
    obtain ⟨vs, hv⟩ := hf
    obtain ⟨oc, odd, oda, osl⟩ := oe
    obtain ⟨h1, h2⟩ := hz
    dsimp only at h1 h2 hv
    subst h1 h2 hv
    exact ⟨hg, rfl, rfl, hod⟩
  obtain ⟨_, its, rv, o, h1, h2, n, h3⟩ := (show ObjOk X.prog X.w H s.heap tp (.tup [.ref Y1, .ref Y2]) from I.hok tp _ hT)
  have e3 : its = [.ref Y1, .ref Y2] := by
    cases rv with
    | cons ra rr =>
      cases rr with
      | cons rb rr =>
        cases rr
        cases (show _ = Value.ref Y1 from ra)
        cases (show _ = Value.ref Y2 from rb)
        rfl
  subst e3
  obtain ⟨oc, od', dt, sl⟩ := o
  simp only at h2 h3
  subst h2 h3
  exact PySem.W.kia_tup (PySem.W.kitx_exc C.c C.ga C.gt C.sub C.kc C.kg C.kt C.ob) I.kIn J h1 ek (fun z => nomatch z) fun tk => ⟨.bl b, H, I.kept (t' := tk) fun _ _ z => z, rfl, q⟩
theorem kit_two {K : PySem.W.Frag} {t c1 c2 : Value} {b1 b2 : Bool} (h1 : PySem.W.kitOne K t c1 = some b1) (h2 : PySem.W.kitOne K t c2 = some b2) : PySem.W.kitAny K t [c1, c2] = some (b1 || b2) := by
  refine kitAny_cons h1 (fun e => ?_) (fun e => by subst e; rfl)
  subst e
  refine kitAny_cons h2 (fun e => by subst e; rfl) (fun e => by subst e; rfl)

/-! ### sorted of a set, of any size within a scan -/
section
variable {P : Program} {w : World} {A : Around} {s : Shared} {E : Value → Shared → Prop} {a : Addr}
theorem sorted_setW {S : Int → Bool} {n : Nat} {Q : Value → Shared → Prop} (R : SetR w s.heap a S n) (hh : A.handled = none) (hbig : n ≤ 4096)
    (hQ : ∀ s' p (out : Array Value) (c : Nat) (ns : List Int), (∀ b o, s.heap.get? b = some o → s'.heap.get? b = some o) → s'.gens = s.gens → s'.os = s.os → s.heap.objs.size ≤ p →
      s'.heap.get? p = some (seqObj "list" out c) → IntsAre out.toList ns → ns.Pairwise (· < ·) → (∀ k, k ∈ ns ↔ S k = true) → ns.length = n → Q (.ref p) s') :
    wpAny (model P w) A (call (.builtin "sorted") [.ref a]) Q E s := by
  obtain ⟨o, es, ep, t, ho, hex, hd, g, nd, hm, hb, hf, hn, hr, hl⟩ := R
  refine Calls.call_function_entry kind_sorted plain_sorted entry_sorted (args_sorted1 _) ?_
  unfold Builtin.«sorted»
  refine wpAny_bind (m := checkCount "sorted" 1 1 _) (wpAny_pure ?_)
  refine wpAny_bind (collect_set (A := A.in1) hh ⟨o, ho, hex.1, hd⟩ hf hb hr hl fun s1 vs k1 hz g1 o1 pm => ?_)
  have hvl : vs.length = n := by rw [pm.length_eq, List.length_map, Array.length_toList]; exact hn
  have hI : IntsAre vs (vs.map Builtin.Re.reRawOf) := ints_of vs fun v hv => by
    obtain ⟨e, he, q⟩ := List.mem_map.mp (pm.mem_iff.mp hv)
    obtain ⟨k, tk, h1, _⟩ := g e he
    exact ⟨k, tk, by rw [← q]; exact h1⟩
  have pk : (vs.map Builtin.Re.reRawOf).Perm (es.toList.map keyOf) := by
    have q := pm.map Builtin.Re.reRawOf
    rw [List.map_map] at q
    exact q
  have hsz : vs.length ≤ sizeLine := by rw [hvl, sizeLine_eq]; omega
  refine wpAny_bind (wpAny_newList ?_ hsz)
  have hoL : (s1.heap.push (seqObj "list" vs.toArray 0)).get? s1.heap.objs.size = some (seqObj "list" vs.toArray 0) := Heap.get?_push_size _ rfl
  refine wpAny_bind (wpAny_holding (wpAny_call_entry slot_list_sort ⟨_, hoL, rfl⟩ entry_list_sort (SrtO.list_sort_ord SrtO.swo_int hoL hsz (fun h2 => SrtO.ints_sortable hI h2) fun out h1 h2 => ⟨_, rfl, ?_⟩) (args_list_sort _)))
  obtain ⟨a1, a2, a3⟩ := SrtO.ints_out hI h1 h2
  obtain ⟨c, hc⟩ := sortedHeap_at (vs := vs) (out := out.toArray) hoL
  have pn : (out.map SrtO.iv).Perm (es.toList.map keyOf) := a2.trans pk
  refine wpAny_pure ⟨_, rfl, hQ _ s1.heap.objs.size out.toArray c (out.map SrtO.iv) (fun b u e => ?_) g1 o1 hz hc a1 (lt_of_le_nodup _ a3 (pn.nodup_iff.mpr nd)) (fun k => by rw [pn.mem_iff, ← hm k]) ?_⟩
  · have q := k1 b u e
    have hlt := Heap.lt_size q
    show (sortedHeap (s1.heap.push (seqObj "list" vs.toArray 0)) s1.heap.objs.size vs out.toArray).get? b = some u
    rw [sortedHeap_old (Nat.ne_of_lt hlt) (by rw [size_push']; exact Nat.lt_succ_of_lt hlt)]
    exact Heap.get?_push_of_some _ q
  · rw [pn.length_eq, List.length_map, Array.length_toList]; exact hn
end
def rSortedSetW (w : World) : List V → Hp → VK → Prop := fun vs H Q => ∃ (a : Addr) (S : Int → Bool) (n : Nat), vs = [V.ref a] ∧ H a = some (SetO w a S n) ∧ n ≤ 4096 ∧
  ∀ (ns : List Int) (p : Addr), ns.Pairwise (· < ·) → (∀ k : Int, k ∈ ns ↔ S k = true) → ns.length = n → H p = none → Q (.ref p) (upd H p (.lst (ns.map V.int)))
theorem cr_sortedSetW {X : Cx} (hc : X.calm = true) : CallR X (.builtin "sorted") (rSortedSetW X.w) := by
  intro pins s σ H vs us Q I r h
  obtain ⟨a, S, n, rfl, ha, h64, q⟩ := h
  have R := setO_get I ha
  rw [Vals.ref1 r]
  refine sorted_setW R (I.ok.hd hc) h64 fun s' p out c ns k g o hp hg hi hs hm hl => ?_
  have hlen : (ns.map V.int).length ≤ sizeLine := by rw [List.length_map, hl, sizeLine_eq]; omega
  have hn : H p = none := I.hok.fresh hp
  have J : Inv X pins σ (upd H p (.lst (ns.map V.int))) { s with heap := s'.heap, gens := s'.gens, drawn := s'.drawn, toks := s'.toks } :=
    I.call (ch := []) (Un.laid k hp hn) (I.hok.laid k hp ⟨hlen, out.toList, c, vals_of_ints hi, hg⟩) (by rw [g]; exact I.bare) (fun _ z => nomatch z)
  have e : s' = { s with heap := s'.heap, gens := s'.gens, drawn := s'.drawn, toks := s'.toks } := by
    cases s'
    cases s
    cases o
    rfl
  rw [e]
  exact ⟨.ref p, _, J, rfl, q ns p hs hm hl hn⟩

/-! ### properties, own `in`, own operators, classmethods, the class itself called: what is raised is wished for at the caller's slots -/
/-- an instance of C: with slots, or with a dict -/
def InsH (H : Hp) (a C : Addr) : Prop := (∃ dx vs, SlX.Slt H a C dx vs) ∨ ∃ dx fs, H a = some (.ins C dx fs)
theorem insH_at {X : Cx} {pins : List (Addr × Obj)} {σ : L2.St} {H : Hp} {s : Shared} {a C : Addr} (I : Inv X pins σ H s) (h : InsH H a C) : ∃ ox od, PySem.W.InstAt s.heap a ox C (some od) := by
  rcases h with ⟨dx, vs, h⟩ | ⟨dx, fs, h⟩
  · obtain ⟨sl, od, _, J, _⟩ := SlX.slt_inst I h
    exact ⟨_, _, J⟩
  · obtain ⟨mA, O, _⟩ := ins_get I.hok h
    obtain ⟨od, J, _⟩ := O.look
    exact ⟨_, _, J⟩
structure PropAt (K : PySem.W.Frag) (C : Addr) (f : Str) (g : Addr) : Prop where
  pg : PySem.W.plainGet K C f = true
  ic : PySem.W.isClsIn K C = true
  at_ : ∃ p, PySem.W.findIn K (.ref C) f = some (some (.ref p)) ∧ PySem.W.specialIn K (.ref p) "__get__" = some (some (.builtin "property.__get__")) ∧ PySem.W.takesIn K (.ref p) = some true ∧ ∃ rest, PySem.W.recIn K p "property" = some (.ref g :: rest)
def tRecv1 (C : Addr) (ta : TE) : TA := fun σ H Q => ta σ H fun x H1 => ∃ a, x = .ref a ∧ InsH H1 a C ∧ Q [x] H1
def tPropX (C : Addr) (sp : Sp) (E : XK) (ta : TE) : TE := fun σ H Q => tRecv1 C ta σ H fun vs H1 => sp vs H1 Q E
def tRecvX (C : Addr) (ta : TE) (t : TA) : TA := fun σ H Q => ta σ H fun x H1 => ∃ a, x = .ref a ∧ InsH H1 a C ∧ t σ H1 fun ws H2 => Q (x :: ws) H2
def tRecv2 (C : Addr) (ta tb : TE) : TA := fun σ H Q => ta σ H fun x H1 => tb σ H1 fun y H2 => ∃ a b, x = .ref a ∧ y = .ref b ∧ InsH H2 a C ∧ InsH H2 b C ∧ Q [x, y] H2
def tRecvIn (C : Addr) (ta tb : TE) : TA := fun σ H Q => ta σ H fun x H1 => tb σ H1 fun y H2 => ∃ a, y = .ref a ∧ InsH H2 a C ∧ Q [y, x] H2
def tBinX (C : Addr) (sp : Sp) (E : L2.St → XK) (ta tb : TE) : TE := fun σ H Q => tRecv2 C ta tb σ H fun vs H1 => sp vs H1 Q (E σ)
def tInX (C : Addr) (sp : Sp) (E : L2.St → XK) (neg : Bool) (ta tb : TE) : TE := fun σ H Q => tRecvIn C ta tb σ H fun vs H1 => sp vs H1 (fun z H' => ∃ b, z = .bl b ∧ Q (.bl (if neg = true then !b else b)) H') (E σ)
def tCMethS (C : Addr) (sp : Sp) (E : L2.St → XK) (ta : TE) (t : TA) : TE := fun σ H Q => ta σ H fun x H1 => x = .ref C ∧ t σ H1 fun vs H2 => sp (.ref C :: vs) H2 Q (E σ)
def tMakeL (i : Nat) (C : Addr) (sp : Sp) (E : L2.St → XK) (t : TA) : TE := fun σ H Q => σ[i]? = some (some (.ref C)) ∧ t σ H fun vs H1 => ∀ x dx, H1 x = none → H1 dx = none → dx ≠ x →
  sp (.ref x :: vs) (upd (upd H1 dx (.own x)) x (.ins C dx [])) (fun v H2 => v = .non ∧ Q (.ref x) H2) (E σ)
section
variable {X : Cx} {CX : CXT} {k i : Nat} {C g p q : Addr} {mc : Value} {sp : Sp} {E : L2.St → XK} {E1 : XK} {o e a b : Expr} {es : List Expr} {f m x : Str} {pos apos pp : Pos} {ta tb : TE} {t : TA} {fd : FuncData} {ps : List Str}
theorem getprop_x {pins : List (Addr × Obj)} {σ : L2.St} {H : Hp} {s : Shared} {Q : VK} {r : Addr} {bb : Bool} (I : Inv X pins σ H s) (h : InsH H r C) (P : PropAt X.K C f g) (F : FnR X.prog X.w X.K X.mg X.base CX k g sp) (hr : Room (k + 1) X.A) (hx : ∀ (H : Hp) (s : Shared) (e : Value) (s' : Shared), CX X.stack H s E1 e s' → False)
    (q : sp [.ref r] H Q E1) : wpAny (model X.prog X.w) X.A (getAttr (.ref r) f bb) (EP X pins σ Q) X.xe s := by
  obtain ⟨ox, od, J⟩ := insH_at I h
  obtain ⟨p, at_, get, tk, rest, hrec⟩ := P.at_
  have I1 : Inv X pins σ H { s with toks := s.toks + 1 } := I.tok (s.toks + 1)
  refine PySem.W.get_bind I.kIn J (PySem.W.plainGet_of P.pg).1 (PySem.W.findObj_data P.ic at_ get tk) (PySem.W.plainGet_of P.pg).2 (wpAny_call (PySem.W.prop_get (s := { s with toks := s.toks + 1 }) I.kIn hrec ?_))
  refine codeAny_mono (F X.A.in1 X.stack { s with toks := s.toks + 1 } H [.ref r] [.ref r] Q E1 hr.in1 I1.env0.in1 (.cons rfl .nil) q) fun r s' hq => ?_
  cases r with
  | error e => exact (hx _ _ _ _ hq).elim
  | ok fl =>
    cases fl with
    | ret u =>
      obtain ⟨v, H', I2, rv, q⟩ := I1.after hq
      exact wpAny_of_eq (PySem.W.handedOut_of (handed_of rv)) ⟨v, H', I2, rv, q⟩
    | next => exact False.elim hq
    | brk => exact False.elim hq
    | cont => exact False.elim hq
/-- e.f, a property -/
theorem pe_propX (he : PE X e ta) (P : PropAt X.K C f g) (F : FnR X.prog X.w X.K X.mg X.base CX k g sp) (hr : Room (k + 1) X.A) (hx : ∀ (H : Hp) (s : Shared) (e : Value) (s' : Shared), CX X.stack H s E1 e s' → False) (hb : attributeBase e f X.env (eval e X.env) = eval e X.env := by rfl) : PE X (.Attribute e f pos) (tPropX C sp E1 ta) := by
  refine ⟨fun pins s σ H Q I h => ?_⟩
  refine attr_of hb (thn (he.run pins s σ H _ I h) fun w s1 ⟨x, H1, I1, rx, a, ex, hs, q⟩ => ?_)
  subst ex
  obtain rfl : w = Value.ref a := rx
  exact getprop_x I1 hs P F hr hx q
/-- x in o -/
theorem in_own {pins : List (Addr × Obj)} {σ : L2.St} {H : Hp} {s : Shared} {Q : VK} {r : Addr} {y : V} {v : Value} {neg : Bool} (I : Inv X pins σ H s) (h : InsH H r C) (ry : RelV y v) (hm : Meth X.K C "__contains__" g) (F : FnR X.prog X.w X.K X.mg X.base CX k g sp) (hr : Room k X.A) (hx : PassesAt CX X σ (E σ))
    (q : sp [.ref r, y] H (fun z H' => ∃ b, z = .bl b ∧ Q (.bl (if neg = true then !b else b)) H') (E σ)) : wpAny (model X.prog X.w) X.A (contains (.ref r) v >>= fun b => (pure (Value.bool (if neg = true then !b else b)) : Sem Value)) (EP X pins σ Q) X.xe s := by
  obtain ⟨ox, od, J⟩ := insH_at I h
  refine wpAny_bind (CtX.contains_own I.kIn J hm.at_ (beq_iff_eq.mp hm.fn) (wpAny_mono (wpAny_call (run_fnRS (us := [.ref r, v]) (vs := [.ref r, y]) F hr hx I (.cons rfl (.cons ry .nil)) q)) (fun w s' z => ?_) fun _ _ x => x))
  obtain ⟨z', H', I', rz, b, ez, qz⟩ := z
  subst ez
  obtain rfl : w = Value.bool b := rz
  exact ⟨b, rfl, wpAny_pure ⟨.bl (if neg = true then !b else b), H', I', rfl, qz⟩⟩
theorem op_inX (hm : Meth X.K C "__contains__" g) (F : FnR X.prog X.w X.K X.mg X.base CX k g sp) (hr : Room k X.A) (hx : ∀ σ, PassesAt CX X σ (E σ)) {pins : List (Addr × Obj)} {σ : L2.St} {H : Hp} {s : Shared} {y z : V} {v u : Value} {Q : VK} (I : Inv X pins σ H s) (ry : RelV y v) (rz : RelV z u) {neg : Bool}
    (h : ∃ a, z = .ref a ∧ InsH H a C ∧ sp [z, y] H (fun z H' => ∃ b, z = .bl b ∧ Q (.bl (if neg = true then !b else b)) H') (E σ)) : wpAny (model X.prog X.w) X.A (compareOp (if neg = true then .NotIn else .In) v u) (EP X pins σ Q) X.xe s := by
  obtain ⟨r, rfl, hs, q⟩ := h
  obtain rfl : u = Value.ref r := rz
  cases neg with
  | false =>
    show wpAny _ _ (contains (.ref r) v >>= fun b => (pure (Value.bool b) : Sem Value)) _ _ _
    exact in_own (neg := false) I hs ry hm F hr (hx σ) q
  | true =>
    show wpAny _ _ (contains (.ref r) v >>= fun b => (pure (Value.bool (!b)) : Sem Value)) _ _ _
    exact in_own (neg := true) I hs ry hm F hr (hx σ) q
theorem pe_inX (neg : Bool) {op : CmpOp} (hop : op = if neg = true then .NotIn else .In) (ha : PE X a ta) (hb : PE X b tb) (hm : Meth X.K C "__contains__" g) (F : FnR X.prog X.w X.K X.mg X.base CX k g sp) (hr : Room k X.A) (hx : ∀ σ, PassesAt CX X σ (E σ)) (hmk : behindInMarks op b = false) :
    PE X (.Compare a [op] [b] pos) (tInX C sp E neg ta tb) := by
  refine ⟨fun pins s σ H Q I h => ?_⟩
  subst hop
  refine wpAny_Compare1 (binT ha hb I h fun v u s2 x y H2 I2 rx ry q => ?_) hmk
  obtain ⟨r, e, h1, q⟩ := q
  exact op_inX hm F hr hx I2 rx ry ⟨r, e, h1, q⟩
theorem pt_inX (neg : Bool) {op : CmpOp} (hop : op = if neg = true then .NotIn else .In) (ha : PE X a ta) (hb : PE X b tb) (hm : Meth X.K C "__contains__" g) (F : FnR X.prog X.w X.K X.mg X.base CX k g sp) (hr : Room k X.A) (hx : ∀ σ, PassesAt CX X σ (E σ)) (hmk : behindInMarks op b = false) :
    PT X (.Compare a [op] [b] pos) (tTest (tInX C sp E neg ta tb)) := by
  refine ⟨fun pins s σ H Q I h => ?_⟩
  subst hop
  refine wpAny_isTrue_Compare1 (thn (ha.run pins s σ H _ I h) fun v s1 ⟨x, H1, I1, r1, q1⟩ => thn (hb.run pins s1 σ H1 _ I1 q1) fun u s2 ⟨y, H2, I2, r2, r, e, h1, q2⟩ =>
    thn (op_inX (Q := fun x H' => ∃ k, x = V.bl k ∧ Q k H') hm F hr hx I2 r1 r2 ⟨r, e, h1, q2⟩) fun c s3 h3 => ?_) hmk
  obtain ⟨z, H3, I3, r3, k, e, q3⟩ := h3
  subst e
  cases r3
  exact wpAny_truthy_bool ⟨H3, I3, q3⟩
/-- e & f, an own operator -/
theorem pe_binX {op : Operator} (ha : PE X a ta) (hb : PE X b tb) (sf : PySem.W.selfFirst X.K C = true) (hs : PySem.W.findIn X.K (.ref C) (PySem.dunder op.info.2) = some (some (.ref g))) (hf : PySem.W.isFn X.K (.ref g) = true) (F : FnR X.prog X.w X.K X.mg X.base CX k g sp) (hr : Room k X.A) (hx : ∀ σ, PassesAt CX X σ (E σ)) :
    PE X (.BinOp a op b pos) (tBinX C sp E ta tb) := by
  refine ⟨fun pins s σ H Q I h => ?_⟩
  refine wpAny_BinOp (binT ha hb I h fun v u s2 x y H2 I2 rx ry q => ?_)
  obtain ⟨r, r', rfl, rfl, h1, h2, q⟩ := q
  obtain rfl : v = Value.ref r := rx
  obtain rfl : u = Value.ref r' := ry
  obtain ⟨ox, od, J⟩ := insH_at I2 h1
  obtain ⟨ox', od', J'⟩ := insH_at I2 h2
  obtain ⟨mm, hF⟩ := I2.fr
  refine PySem.W.binop_K hF I2.ok.mod.kin J J'.type sf hs hf ?_
  refine wpAny_mono (wpAny_call (run_fnRS (us := [.ref r, .ref r']) (vs := [.ref r, .ref r']) F hr (hx σ) I2 (.cons rfl (.cons rfl .nil)) q)) (fun w s' z => ?_) fun _ _ x => x
  obtain ⟨z', H', I', rz, qz⟩ := z
  exact SlX.cmpback rz ⟨z', H', I', rz, qz⟩
/-- C.m(e, ..) -/
theorem run_cmS {pins : List (Addr × Obj)} {σ : L2.St} {H : Hp} {s : Shared} {q : Addr} {Q : VK} {us : List Value} {vs : List V} (F : FnR X.prog X.w X.K X.mg X.base CX k g sp) (hr : Room k X.A) (hx : PassesAt CX X σ (E σ)) (I : Inv X ((q, PySem.W.methodObj (.ref g) (.ref C)) :: pins) σ H s)
    (r : Vals vs us) (h : sp (.ref C :: vs) H Q (E σ)) : wpAny (model X.prog X.w) X.A (call (.ref q) us) (EP X pins σ Q) X.xe s := by
  have z : wpAny (model X.prog X.w) X.A (call (.ref q) us) (EP X ((q, PySem.W.methodObj (.ref g) (.ref C)) :: pins) σ Q) X.xe s :=
    wpAny_call (PySem.W.method_call (ClX.pin_at I) (run_fnRS (us := .ref C :: us) (vs := .ref C :: vs) F hr hx I (.cons rfl r) h))
  exact thn z fun _ _ y => ClX.unpinE y
theorem pe_cmethS {pl : Sem Bool} (he : PE X o ta) (r : ClX.CRead X.K C mc) (c : ClX.CMet X.K C mc m p g) (F : FnR X.prog X.w X.K X.mg X.base CX k g sp) (hr : Room k X.A) (hx : ∀ σ, PassesAt CX X σ (E σ)) (ha : PA X (e :: es) t)
    (hst : starEach (e :: es) X.env = (false, eval e X.env) :: starEach es X.env := by rfl) (hpl : (backTo pos (starEach es X.env)).any (·.1) = false := by rfl)
    (ht : eval (.Call (.Attribute o m apos) (e :: es) [] pos) X.env = (do
      let ov ← eval o X.env
      standAt apos.atName
      let (f, first) ← holding [ov] (getMethod ov m pl)
      callWith pos f first (backTo pos (starEach (e :: es) X.env)) (backToKw pos (keywordEach [] X.env))) := by rfl) :
    PE X (.Call (.Attribute o m apos) (e :: es) [] pos) (tCMethS C sp E ta t) := by
  refine ⟨fun pins s σ H Q I h => ?_⟩
  refine PySem.W.methodCall_KW (pl := pl) (thn (he.run pins s σ H _ I h) fun u s1 ⟨x, H1, I1, rx, ex, q⟩ => ?_) ht
  subst ex
  obtain rfl : u = Value.ref C := rx
  refine ClX.getmethcm_ok I1 r c fun s2 I2 => ?_
  refine ClX.callwith_cm I2 (ClX.base_none I1 (Nat.le_refl _)) c.fi (thn (ha.run pos _ s2 σ H1 _ I2 q) fun us s3 ⟨vs, H2, I3, rv, q2⟩ => ⟨⟨ClX.pin_at I3, I3.kIn⟩, ?_⟩) hst hpl
  exact run_cmS F hr (hx σ) I3 rv q2
/-- cls(e, ..) -/
theorem pe_makeL (M : Mk X.K C g) (F : FnOk X.prog X.w X.K X.mg X.base CX k g fd ps sp) (hr : Room (k + 1) X.A) (hN : X.N[i]? = some x) (hv : Vis X.env.scope x) (hb : Binds X.K fd ps []) (hx : ∀ σ, PassesAt CX X σ (E σ))
    (ha : PA X (e :: es) t) (hdb : (x == ("__debug__" : Str)) = false := by decide) (hcd : (x == ("__classdict__" : Str)) = false := by decide) (he : starEach (e :: es) X.env = (false, eval e X.env) :: starEach es X.env := by rfl) (hpl : (backTo pos (starEach es X.env)).any (·.1) = false := by rfl) :
    PE X (.Call (.Name x pp) (e :: es) [] pos) (tMakeL i C sp E t) := by
  refine ⟨fun pins s σ H Q I h => ?_⟩
  obtain ⟨hs, ht⟩ := h
  refine wpAny_Call_Name_kw (thn ((pe_var (pos := pp) hN hv hdb hcd).run pins s σ H (fun v H1 => v = .ref C ∧ H1 = H) I ⟨.ref C, hs, rfl, rfl⟩) fun u s1 ⟨v, H1, I1, r1, q1⟩ => ?_)
  obtain ⟨rfl, rfl⟩ := q1
  cases r1
  refine PySem.W.callWith_K (h₀ := X.base) I.ok.mod.kin M.kp (thn (ha.run pos pins s1 σ _ _ I1 ht) fun us s2 ⟨vs, H2, I2, r, q⟩ => ⟨I2.kIn, ?_⟩) he hpl
  exact run_makeDS (dvs := []) M F hr hb .nil (hx σ) I2 r (by simpa using q)
end
theorem cxF {P : Program} {w : World} {outer : List Env} {H : Hp} {s : Shared} {e : Value} {s' : Shared} (h : L2.CX P w outer H s E0 e s') : False := by
  obtain ⟨a, B, H', cls, d, ea, fl, hok, ub, na, os, ag, he⟩ := h
  exact he
section
variable {X : Cx} {K : PySem.W.Frag} {e o value : Expr} {f : Str} {pos pos' : Pos} {ta tv : TE}
theorem pe_cvalK (hK : X.K = K) (he : PE X e ta) (hb : attributeBase e f X.env (eval e X.env) = eval e X.env := by rfl) : PE X (.Attribute e f pos) (ClX.tCVal K ta f) := by
  subst hK
  exact ClX.pe_cval he hb
theorem pe_slK (hK : X.K = K) (he : PE X e ta) (hb : attributeBase e f X.env (eval e X.env) = eval e X.env := by rfl) : PE X (.Attribute e f pos) (SlX.tSl K ta f) := by
  subst hK
  exact SlX.pe_sl he hb
theorem ps_slK (hK : X.K = K) (ha : PE X o ta) (hv : PE X value tv) (hs : swapsWith value (some (.Attribute o f pos')) pos.line X.env = pure false := by rfl) : PS X (.Assign [.Attribute o f pos'] value pos) (SlX.sSl K ta tv f) := by
  subst hK
  exact SlX.ps_sl ha hv hs
end

/-! ### own iteration: `def __iter__(self): return iter(self.f)` -/
/-- at it an iterator over the tuple (k) or list at l, at its start -/
def ItKO (k : Bool) (l it : Addr) : HO := .ext fun h => ItAt k h it l 0
theorem itKO_ok {P : Program} {w : World} {H : Hp} {h : Heap} {k : Bool} {l it : Addr} (e : ItAt k h it l 0) : ObjOk P w H h it (ItKO k l it) :=
  ⟨e, e.obj.imp fun o q => q.1, fun _ _ q kk => ItAt.on q kk⟩
theorem itKO_get {X : Cx} {pins : List (Addr × Obj)} {σ : L2.St} {H : Hp} {s : Shared} {k : Bool} {l it : Addr} (I : Inv X pins σ H s) (e : H it = some (ItKO k l it)) : ItAt k s.heap it l 0 := (I.hok it _ e).1
def rIterK (K : PySem.W.Frag) (n : Nat) : List V → Hp → VK → Prop := fun xs H Q => ∃ (k : Bool) (l : Addr) (zs : List V), xs = [.ref l] ∧ SqK K k H l zs ∧ ∀ it, H it = none → n ≤ it → Q (.ref it) (upd H it (ItKO k l it))
theorem begin_k {M : Model} {A : Around} {E : Value → Shared → Prop} {s : Shared} {k : Bool} {l : Addr} {xs : Array Value} {Q : Value → Shared → Prop} (a : SqAt k s.heap l xs)
    (h : ∀ h', ItAt k h' s.heap.objs.size l 0 → (∀ c o, s.heap.get? c = some o → h'.get? c = some o) → Q (.ref s.heap.objs.size) { s with heap := h' }) : ∀ {prog : Program} {w : World}, M = model prog w → wpAny M A (pyIter (.ref l)) Q E s := fun {prog w} e => by
  subst e
  cases k
  · exact wpAny_pyIter_list (show s.heap.IsList l xs from a) (h _ ⟨_, Heap.get?_push_size _ rfl, rfl, rfl⟩ fun c o x => Heap.get?_push_of_some _ x)
  · exact wpAny_pyIter_tuple (show s.heap.IsTuple l xs from a) (h _ ⟨_, Heap.get?_push_size _ rfl, rfl, rfl⟩ fun c o x => Heap.get?_push_of_some _ x)
theorem call_iterK {X : Cx} {K : PySem.W.Frag} (hK : X.K = K) : CallR X (.builtin "iter") (rIterK K X.s_0.heap.objs.size) := by
  subst hK
  intro pins s σ H xs us Q I r h
  obtain ⟨k, l, zs, rfl, hq, q⟩ := h
  obtain rfl := Vals.ref1 r
  obtain ⟨its, rv, a⟩ := hq.held I
  refine Calls.call_function_entry (by decide +kernel) (by decide +kernel) PySem.W.kdk_entry_iter (PySem.W.kdk_args_iter _) ?_
  unfold Builtin.«iter»
  refine wpAny_bind (m := someArgs "iter" 1 2 _) (wpAny_of_eq (a := [Value.ref l]) (by first | rfl | kernel_rfl!) ?_)
  show wpAny _ _ (pyIter (.ref l) >>= _) _ _ _
  refine wpAny_bind (begin_k a (fun h' p kp => wpAny_pure ⟨_, rfl, ?_⟩) rfl)
  exact ⟨.ref s.heap.objs.size, _, I.laid (t' := s.toks) kp (Nat.le_refl _) (itKO_ok p), rfl, q _ (I.hok.fresh (Nat.le_refl _)) I.sz⟩
/-- a def called here and now: its promise may speak of the state -/
theorem def_now {CX : CXT} {P : Program} {w : World} {K : PySem.W.Frag} {mg : Str → Option Value} {base : Heap} {k : Nat} {f : Addr} {nm qual : Str} {args : Arguments} {body : List Stmt} {scope : Scope} {kV doc pm cdv ct oc : Value} {an od : Option Addr} {osl : Array (Option Value)} {N ps : List Str}
    (lk : K.lookup f = some ⟨oc, od, .func (PySem.W.fnOf nm qual args body scope .none kV doc pm an cdv ct), osl⟩) (hcd : PySem.W.codeIn K cdv qual = true) (S : FnScope N ps scope) {A : Around} {outer : List Env} {s : Shared} {H : Hp} {us : List Value} {vs : List V} {Q : VK} {E : XK} (hr : Room (k + 1) A) (e0 : Env0 P w K mg base A outer s H)
    (hb : BindsTo s (PySem.W.fnOf nm qual args body scope .none kV doc pm an cdv ct) ⟨us, []⟩ (ps.zip us)) (r : Vals vs us) (hl : vs.length = ps.length)
    (hbody : ∃ t, PSs (cxOf CX P w K mg base N qual scope f cdv A outer s H E) body t ∧ t { nx := fun _ H' => Q .non H', rt := Q } (L2.start N vs) H) : codeAny (model P w) A (.call (.ref f) ⟨us, []⟩) (CR CX outer P w H s Q E) s := by
  have inK : K.In s.heap := e0.mod.kin.keeps fun b o e => (e0.bs b o e).1
  have nolim : s.heap.NoLimit := e0.mod.nolimit.keeps fun b o e => (e0.bs b o e).1
  have kinds : ∀ y ∈ ps.zip us, scope.names.lookup y.1 = some .local ∨ (scope.names.lookup y.1 = some .cell ∧ ((cellsFrom (s.heap.objs.size + 1) scope.names []).lookup y.1).isSome = true) := by
    rintro ⟨n, v⟩ hy
    exact (S.par n (List.of_mem_zip hy).1).imp id fun q => ⟨q, PySem.W.cellsFrom_some _ _ _ (.inl q)⟩
  refine codeAny_call_function hr.depth (inK _ _ lk) rfl S.co S.gen rfl (PySem.W.codeRec_of inK hcd) (hb _ _ _ _ ?_)
  refine wpAny_newFunctionEnv_cells S.kind kinds fun env he s1 x => ?_
  subst he
  refine ⟨nolim.keeps x.toInCall.keep, codeAny_func ?_⟩
  obtain ⟨t, ht, hq⟩ := hbody
  refine wpAny_mono (ht.run [] s1 _ H _ (inv_start S hr.hd e0 hl r x) hq) (fun fl s' hs => ?_) fun e s' hs => hs
  cases fl with
  | ret u => exact let ⟨v, _, H', J, rv, q⟩ := hs; ⟨v, H', J.os, J.bare, J.base, J.hok, rv, q⟩
  | next => exact let ⟨_, H', J, q⟩ := hs; ⟨.non, H', J.os, J.bare, J.base, J.hok, rfl, q⟩
  | brk => exact let ⟨_, _, _, q⟩ := hs; q.elim
  | cont => exact let ⟨_, _, _, q⟩ := hs; q.elim
/-- a class whose instances are walked by iter(self.f) -/
structure IterC (P : Program) (w : World) (K : PySem.W.Frag) (mg : Str → Option Value) (base : Heap) (C g : Addr) (F : Str) : Prop where
  cls : Cls K C
  na : NoAttr K C F
  it : PySem.W.findIn K (.ref C) "__iter__" = some (some (.ref g))
  itF : PySem.W.isFn K (.ref g) = true
  nolen : PySem.W.findIn K (.ref C) "__len__" = some none
  nohint : PySem.W.findIn K (.ref C) "__length_hint__" = some none
  go : ∃ (fd : FuncData) (N : List Str) (st : Stmt) (qual : Str), Fun K "__iter__" qual st g fd ∧ FnScope N ["self"] (defScope st) ∧ Binds K fd ["self"] [] ∧
    ∀ (cdv : Value) (A : Around) (outer : List Env) (s : Shared) (H : Hp) (E : XK), ∃ t, PSs (cxOf CX0 P w K mg base N qual (defScope st) g cdv A outer s H E) (defBody st) t ∧
      ∀ (D : Ends) (a : Addr), tFld K (tC (.ref a)) F (L2.start N [.ref a]) H (fun v H1 => rIterK K s.heap.objs.size [v] H1 D.rt) → t D (L2.start N [.ref a]) H
/-- what stands behind such an instance -/
def IsIt (K : PySem.W.Frag) (H : Hp) (a C : Addr) (F : Str) (k : Bool) (l : Addr) (xs : List V) : Prop := ∃ dx fs, H a = some (.ins C dx fs) ∧ fs.lookup F = some (.ref l) ∧ SqK K k H l xs
theorem SqK.same {K : PySem.W.Frag} {k : Bool} {H H' : Hp} {a : Addr} {xs : List V} (h : SqK K k H a xs) (e : Same H H') : SqK K k H' a xs := by
  cases k
  · exact Same.seq e (show SqL K H a xs from h)
  · rcases (show SqT K H a xs from h) with (h | ⟨o, h⟩) | h
    · exact .inl (.inl (e _ _ h))
    · exact .inl (.inr ⟨o, e _ _ h⟩)
    · exact .inr h
theorem IsIt.same {K : PySem.W.Frag} {H H' : Hp} {a C : Addr} {F : Str} {k : Bool} {l : Addr} {xs : List V} (h : IsIt K H a C F k l xs) (e : Same H H') : IsIt K H' a C F k l xs := by
  obtain ⟨dx, fs, h1, h2, h3⟩ := h
  exact ⟨dx, fs, e _ _ h1, h2, h3.same e⟩
/-- somewhere below the running body X -/
structure Below (X : Cx) (n : Nat) (A : Around) : Prop where
  room : Room n A
  fr : A.frames = X.A.frames
theorem Below.in1 {X : Cx} {n : Nat} {A : Around} (b : Below X (n + 1) A) : Below X n A.in1 := ⟨b.room.in1, b.fr⟩
section
variable {X : Cx} {C g a : Addr} {F : Str} {k : Bool} {l : Addr} {xs : List V} {A : Around} {n : Nat}
/-- iter(o) -/
theorem own_begin (c : IterC X.prog X.w X.K X.mg X.base C g F) (b : Below X (n + 1) A) {pins : List (Addr × Obj)} {σ : L2.St} {H : Hp} {s : Shared} (I : Inv X pins σ H s) (h : IsIt X.K H a C F k l xs) :
    wpAny (model X.prog X.w) A (pyIter (.ref a)) (fun u s' => ∃ it, u = .ref it ∧ X.s_0.heap.objs.size ≤ it ∧ H it = none ∧ Inv X pins σ (upd H it (ItKO k l it)) s') X.xe s := by
  obtain ⟨dx, fs, ha, hl, hs⟩ := h
  obtain ⟨mA, J, _⟩ := ins_get I.hok ha
  obtain ⟨od, J, _⟩ := J.look
  obtain ⟨m0, hF⟩ := I.fr
  refine PySem.W.owit_iter hF I.ok.mod.kin J c.it c.itF ?_
  obtain ⟨fd, N, st, qual, fn, S, hb, go⟩ := c.go
  obtain ⟨oc, od', kV, doc, pm, an, cdv, ct, osl, rfl, lk, hcd⟩ := fn.ex
  have e0 : Env0 X.prog X.w X.K X.mg X.base A X.stack s H := by
    have e := I.env0
    exact ⟨by rw [b.fr]; exact e.frames, e.mod, e.bs, e.bsz, e.funs, e.frf, e.hok, e.bare⟩
  obtain ⟨t, ht, q⟩ := go cdv A X.stack s H E0
  have bnd := hb s [.ref a] I.kIn rfl
  refine wpAny_call (codeAny_mono (def_now (us := [Value.ref a]) (vs := [V.ref a]) (Q := fun v H' => ∃ it, v = .ref it ∧ s.heap.objs.size ≤ it ∧ H it = none ∧ H' = upd H it (ItKO k l it)) lk hcd S b.room e0 bnd (.cons rfl .nil) rfl ⟨t, ht, q _ a ⟨a, C, dx, fs, .ref l, rfl, ha, c.cls, c.na, hl, k, l, xs, rfl, hs, fun it h1 h2 => ⟨it, rfl, h2, h1, rfl⟩⟩⟩) fun r s' hq => ?_)
  cases r with
  | error e => exact False.elim hq
  | ok fl =>
    cases fl with
    | next => exact False.elim hq
    | brk => exact False.elim hq
    | cont => exact False.elim hq
    | ret u =>
      obtain ⟨v, H', I', rv, it, ev, h1, h2, eH⟩ := I.after hq
      subst ev eH
      obtain rfl : u = Value.ref it := rv
      unfold PySem.W.OwitIt
      have p := itKO_get I' upd_same
      have fin : ∃ it', Value.ref it = .ref it' ∧ X.s_0.heap.objs.size ≤ it' ∧ H it' = none ∧ Inv X pins σ (upd H it' (ItKO k l it')) s' := ⟨it, rfl, Nat.le_trans I.sz h1, h2, I'⟩
      cases k
      · exact wpAny_specialOf (show s'.heap.IsListIter it l 0 from p).typeIs slot_listiter_next.lookup fin
      · exact wpAny_specialOf (show s'.heap.IsTupleIter it l 0 from p).typeIs PySem.F.slot_tuple_iterator_next.lookup fin
end
theorem apart_of {z TI TO i1 i2 l1 l2 N : Nat} (hz : z = N + 2) (hi : TI = N) (ho : TO = N + 1) (h1 : i1 < N) (h2 : i2 < N) (h3 : l1 < N) (h4 : l2 < N) (n : i1 ≠ i2) (a : l1 ≠ i1) (b : l1 ≠ i2) (c : l2 ≠ i1) (d : l2 ≠ i2) : ZipApart z TI TO i1 i2 l1 l2 := by
  subst hz hi ho
  have f : ∀ {x y : Nat}, (x < y ∨ y < x) → x ≠ y := fun h e => by omega
  exact ⟨f (by omega), f (by omega), f (by omega), f (by omega), f (by omega), f (by omega), f (by omega), f (by omega), f (by omega), n, f (by omega), f (by omega), a, b, f (by omega), f (by omega), c, d⟩
/-- what a zip of two such instances is -/
def ZipMade (X : Cx) (pins : List (Addr × Obj)) (σ : L2.St) (H : Hp) (k1 k2 : Bool) (l1 l2 : Addr) (u : Value) (s' : Shared) : Prop :=
  ∃ z TI TO i1 i2, u = .ref z ∧ Inv X pins σ H s' ∧ ZAt s'.heap z TI TO i1 i2 .none .none ∧ ItAt k1 s'.heap i1 l1 0 ∧ ItAt k2 s'.heap i2 l2 0 ∧ ZipApart z TI TO i1 i2 l1 l2 ∧ ∀ c ∈ [z, TI, TO, i1, i2], FpOk X pins H c
theorem ItAt.lt {k : Bool} {h : Heap} {a l : Addr} {i : Nat} (x : ItAt k h a l i) : a < h.objs.size := by
  obtain ⟨o, e, _⟩ := x.obj
  exact Heap.lt_size e
theorem apart_seq {k k' : Bool} {h : Heap} {a b l : Addr} {i : Nat} {xs : Array Value} (x : SqAt k h a xs) (y : ItAt k' h b l i) : a ≠ b := fun e => by
  subst e
  have c1 : ∃ o, h.get? a = some o ∧ (o.cls = .type "list" ∨ o.cls = .type "tuple") := by
    cases k
    · obtain ⟨o, e, c, _⟩ := (show h.IsList a xs from x)
      exact ⟨o, e, .inl c⟩
    · obtain ⟨o, e, c, _⟩ := (show h.IsTuple a xs from x)
      exact ⟨o, e, .inr c⟩
  have c2 : ∃ o, h.get? a = some o ∧ (o.cls = .type "list_iterator" ∨ o.cls = .type "tuple_iterator") := by
    cases k'
    · obtain ⟨o, e, c, _⟩ := (show h.IsListIter a l i from y)
      exact ⟨o, e, .inl c⟩
    · obtain ⟨o, e, c, _⟩ := (show h.IsTupleIter a l i from y)
      exact ⟨o, e, .inr c⟩
  obtain ⟨o, e1, c1⟩ := c1
  obtain ⟨o', e2, c2⟩ := c2
  rw [e1] at e2
  cases e2
  rcases c1 with c1 | c1 <;> rcases c2 with c2 | c2 <;> (rw [c1] at c2; revert c2; decide)
section
variable {X : Cx} {C g a b : Addr} {F : Str} {k1 k2 : Bool} {l1 l2 : Addr} {xs ys : List V} {n : Nat}
theorem zip_own (c : IterC X.prog X.w X.K X.mg X.base C g F) (hr : Room (n + 3) X.A) {pins : List (Addr × Obj)} {σ : L2.St} {H : Hp} {s : Shared} (I : Inv X pins σ H s) (h1 : IsIt X.K H a C F k1 l1 xs) (h2 : IsIt X.K H b C F k2 l2 ys) :
    wpAny (model X.prog X.w) X.A (call (.type "zip") [.ref a, .ref b]) (ZipMade X pins σ H k1 k2 l1 l2) X.xe s := by
  refine callType_codes (T := "zip") (Bi := Builtin.«object.__init__») (Q₁ := fun obj s₁ => s₁.TypeIs obj "zip" ∧ ZipMade X pins σ H k1 k2 l1 l2 obj s₁) PySem.F.called_zip (PySem.F.typeCall_zip_2 _ _) PySem.F.entry_object_init ?_ ?_
  · refine codeAny_of_tree ?_
    show wpAny _ X.A.in1.in1 (do checkBuiltinCall "zip.__new__" ⟨[.type "zip", .ref a, .ref b], []⟩; again (.builtin "zip.__new__" ⟨[.type "zip", .ref a, .ref b], []⟩)) _ _ s
    refine wpAny_bind (wpAny_of_eq (PySem.F.newCall_zip_2 _ _) (wpAny_pure ⟨plainId_quiet (by decide +kernel) _, codeAny_builtin PySem.F.entry_zip_new ?_⟩))
    rw [Around.under_plainId (by decide +kernel) _]
    have sub := sub_zip
    unfold Builtin.«zip.__new__»
    have b1 : Below X (n + 1) X.A.in1.in1 := Below.in1 (Below.in1 (⟨hr, rfl⟩ : Below X (n + 3) X.A))
    have wA : ∀ {Q : Value → Shared → Prop}, (∀ it s', X.s_0.heap.objs.size ≤ it → H it = none → Inv X pins σ (upd H it (ItKO k1 l1 it)) s' → Q (.ref it) s') → wpAny (model X.prog X.w) X.A.in1.in1 (pyIter (.ref a)) Q X.xe s := fun q =>
      wpAny_mono (own_begin c b1 I h1) (fun u s' hu => by obtain ⟨it, rfl, x, y, z⟩ := hu; exact q it s' x y z) fun _ _ x => x
    obtain ⟨hp, gs, dr, tk, os⟩ := s
    wp_walk using wA
    intro i1 s1 n1 f1 I1
    have wB : ∀ {Q : Value → Shared → Prop}, (∀ it s', X.s_0.heap.objs.size ≤ it → upd H i1 (ItKO k1 l1 i1) it = none → Inv X pins σ (upd (upd H i1 (ItKO k1 l1 i1)) it (ItKO k2 l2 it)) s' → Q (.ref it) s') → wpAny (model X.prog X.w) X.A.in1.in1 (pyIter (.ref b)) Q X.xe s1 := fun q =>
      wpAny_mono (own_begin c b1 I1 (h2.same fun x o e => by rw [upd_ne (ne_of_none e f1)]; exact e)) (fun u s' hu => by obtain ⟨it, rfl, x, y, z⟩ := hu; exact q it s' x y z) fun _ _ x => x
    wp_walk using wB
    intro i2 s2 n2 f2 I2
    obtain ⟨hp2, gs2, dr2, tk2, os2⟩ := s2
    wp_walk
    have ne : i2 ≠ i1 := fun e => by rw [e, upd_same] at f2; cases f2
    have f2' : H i2 = none := by rw [upd_ne ne] at f2; exact f2
    have p1 : ItAt k1 hp2 i1 l1 0 := itKO_get I2 (by rw [upd_ne ne.symm, upd_same])
    have p2 : ItAt k2 hp2 i2 l2 0 := itKO_get I2 upd_same
    have up : Same H (upd (upd H i1 (ItKO k1 l1 i1)) i2 (ItKO k2 l2 i2)) := fun x o e => by rw [upd_ne (ne_of_none e f2'), upd_ne (ne_of_none e f1)]; exact e
    obtain ⟨_, _, _, _, q1⟩ := h1.same up
    obtain ⟨_, _, _, _, q2⟩ := h2.same up
    obtain ⟨us1, _, a1⟩ := q1.held I2
    obtain ⟨us2, _, a2⟩ := q2.held I2
    have F1 : FpOk X pins H i1 := ⟨f1, (ItX.inv_fp I2 (a := i1) (by rw [upd_ne ne.symm, upd_same]) n1).2⟩
    have F2 : FpOk X pins H i2 := ⟨f2', (ItX.inv_fp I2 (a := i2) upd_same n2).2⟩
    have I3 := ItX.inv_drop (φ := fun h => ItAt k2 h i2 l2 0) I2 upd_same
    rw [ItX.dropH_upd f2] at I3
    have I4 := ItX.inv_drop (φ := fun h => ItAt k1 h i1 l1 0) I3 upd_same
    rw [ItX.dropH_upd f1] at I4
    let o1 : Obj := { cls := .type "tuple", data := .seq #[.ref i1, .ref i2] }
    let o2 : Obj := { cls := .type "tuple", data := .seq #[.none, .none] }
    have z1 : (hp2.push o1).objs.size = hp2.objs.size + 1 := Heap.size_push ..
    have z2 : ((hp2.push o1).push o2).objs.size = hp2.objs.size + 2 := by rw [Heap.size_push, z1]
    let o3 : Obj := { cls := .type "zip", data := .fields #[.none, .bool false, .bool false, .ref hp2.objs.size, .ref (hp2.push o1).objs.size] }
    have g3 : (((hp2.push o1).push o2).push o3).get? ((hp2.push o1).push o2).objs.size = some o3 := Heap.get?_push_size _ rfl
    have g2 : (((hp2.push o1).push o2).push o3).get? (hp2.push o1).objs.size = some o2 := Heap.get?_push_of_some _ (Heap.get?_push_size _ rfl)
    have g1 : (((hp2.push o1).push o2).push o3).get? hp2.objs.size = some o1 := Heap.get?_push_of_some _ (Heap.get?_push_of_some _ (Heap.get?_push_size _ rfl))
    have kp : ∀ c o, hp2.get? c = some o → (((hp2.push o1).push o2).push o3).get? c = some o := fun c o x => Heap.get?_push_of_some _ (Heap.get?_push_of_some _ (Heap.get?_push_of_some _ x))
    have lt1 := p1.lt
    have lt2 := p2.lt
    have lq1 := a1.lt
    have lq2 := a2.lt
    refine ⟨⟨o3, g3, rfl⟩, ((hp2.push o1).push o2).objs.size, hp2.objs.size, (hp2.push o1).objs.size, i1, i2, rfl, I4.kept (t' := tk2) kp, ⟨g3, g1, g2⟩, p1.on fun o q => kp _ o q, p2.on fun o q => kp _ o q, ?_, fun c hc => ?_⟩
    · exact apart_of z2 rfl z1 lt1 lt2 lq1 lq2 ne.symm (apart_seq a1 p1) (apart_seq a1 p2) (apart_seq a2 p1) (apart_seq a2 p2)
    · have young : ∀ d, hp2.objs.size ≤ d → FpOk X pins H d := fun d hd => I4.fpOk hd (I4.hok.fresh hd)
      have e : c = ((hp2.push o1).push o2).objs.size ∨ c = hp2.objs.size ∨ c = (hp2.push o1).objs.size ∨ c = i1 ∨ c = i2 := by simpa using hc
      rcases e with e | e | e | e | e
      · rw [e, z2]; exact young _ (Nat.le_add_right _ _)
      · rw [e]; exact young _ (Nat.le_refl _)
      · rw [e, z1]; exact young _ (Nat.le_add_right _ _)
      · rw [e]; exact F1
      · rw [e]; exact F2
  · rintro obj s₁ ⟨hT, q⟩
    exact ⟨hT, PySem.F.args_object_init_3 _ _ _, object_init_meets PySem.F.called_zip.init.lookup PySem.F.called_zip.made (by decide) X.prog X.w X.A.in1 _ s₁ ⟨hT, rfl, q⟩⟩
end
def iZo (K : PySem.W.Frag) (C : Addr) (F : Str) (ta : TA) : TI := fun σ H R => ta σ H fun vs H1 => ∃ k1 k2 a b l1 l2 xs ys, vs = [.ref a, .ref b] ∧ IsIt K H1 a C F k1 l1 xs ∧ IsIt K H1 b C F k2 l2 ys ∧ R (ItZ K k1 k2 l1 l2 xs ys) H1
/-- zip(a, b), two such instances -/
theorem pi_zo {X : Cx} {K : PySem.W.Frag} {C g : Addr} {F : Str} {n : Nat} {e e2 : Expr} {ta : TA} {p pos tpos : Pos} {elts : List Expr} {kk : Nat} (hK : X.K = K) (c : IterC X.prog X.w X.K X.mg X.base C g F) (hr : Room (n + 3) X.A) (hg : Gl X "zip") (hm : X.mg "zip" = none) (ha : PA X [e, e2] ta)
    (hs : starEach [e, e2] X.env = (false, eval e X.env) :: starEach [e2] X.env := by rfl) (hpl : (backTo pos (starEach [e2] X.env)).any (·.1) = false := by rfl) : PI X (.Tuple elts kk tpos) (.Call (.Name "zip" p) [e, e2] [] pos) (iZo K C F ta) := by
  subst hK
  refine ⟨fun pins s σ H R I h => ?_⟩
  refine Call_ (ld_blt I hg hm PyProof.Rows.boot_zip (PyProof.Rows.callWith_type1 (thn (ha.run pos pins s σ H _ I h) fun us s1 ⟨vs, H1, I1, r1, q1⟩ => ?_) hs hpl))
  obtain ⟨k1, k2, a, b, l1, l2, xs, ys, ev, h1, h2, q⟩ := q1
  subst ev
  cases r1 with
  | cons r rr =>
    cases rr with
    | cons r' rr =>
      cases rr
      cases r
      cases r'
      refine wpAny_mono (zip_own c hr I1 h1 h2) (fun u s2 hu => ?_) fun _ _ x => x
      obtain ⟨z, TI, TO, i1, i2, eu, I2, Z, p1, p2, D, fp⟩ := hu
      subst eu
      exact wpAny_pyIter_zip Z.z ⟨z, [z, TI, TO, i1, i2], _, _, H1, rfl, I2, turn_mix D, ⟨_, _, Z, p1, p2⟩, fp, q⟩
/-! list(o) -/
def rListO (K : PySem.W.Frag) (C : Addr) (F : Str) : List V → Hp → VK → Prop := fun xs H Q => ∃ k a l ys, xs = [.ref a] ∧ IsIt K H a C F k l ys ∧ ∀ q, H q = none → Q (.ref q) (upd H q (.lst ys))
section
variable {X : Cx} {C g a q it l : Addr} {F : Str} {k : Bool} {xs : List V} {n : Nat} {A : Around}
/-- the rest of the walk into the list at q -/
theorem fill_own {pins : List (Addr × Obj)} {σ : L2.St} {Rs : Result → Shared → Prop} {H : Hp} (hc : A.in1.handled = none) (hq0 : H q = none) (hs : ∀ zs, SqK X.K k (upd H q (.lst zs)) l xs) (hx : ∀ zs, FpOk X pins (upd H q (.lst zs)) it) (done : ∀ s, Inv X pins σ (upd H q (.lst xs)) s → Rs (.ok (.ret .none)) s) :
    ∀ (m i : Nat) (s : Shared), i + m = xs.length → Inv X pins σ (upd H q (.lst (xs.take i))) s → ItAt k s.heap it l i → codeAny (model X.prog X.w) A (.builtin "list.extend.loop" ⟨[.ref q, .ref it, .none], []⟩) Rs s := by
  intro m
  induction m with
  | zero =>
    intro i s hi I p
    refine codeAny_builtin PySem.F.entry_extend_loop ?_
    rw [Around.under_plainId PySem.F.plain_extend_loop _]
    show wpAny _ A.in1 (pyNext (.ref it) >>= _) _ _ s
    obtain ⟨us, rv, sq⟩ := (hs _).held I
    have hl := rv.length
    have out : us.toArray[i]? = none := by simp; omega
    have fin : ∀ h', Heap.ExtBut it s.heap h' → Rs (.ok (.ret .none)) { s with heap := h' } := fun h' eb => by
      have I2 := I.turnedL (t' := s.toks) (ch := [it]) (fun b o hb x => eb b o (fun z => hb (by simp [z])) x) (fun b hb => by rw [List.mem_singleton.mp hb]; exact hx _)
      rw [List.take_of_length_le (by omega)] at I2
      exact done _ I2
    refine wpAny_bind ?_
    cases k
    · exact wpAny_pyNext_list_end hc (show s.heap.IsListIter it l i from p) (show s.heap.IsList l us.toArray from sq) out fun h' eb => wpAny_pure (fin h' eb)
    · exact wpAny_pyNext_tuple_end hc (show s.heap.IsTupleIter it l i from p) (show s.heap.IsTuple l us.toArray from sq) out fun h' eb => wpAny_pure (fin h' eb)
  | succ m ih =>
    intro i s hi I p
    refine codeAny_builtin PySem.F.entry_extend_loop ?_
    rw [Around.under_plainId PySem.F.plain_extend_loop _]
    show wpAny _ A.in1 (pyNext (.ref it) >>= _) _ _ s
    obtain ⟨us, rv, sq⟩ := (hs _).held I
    have hil : i < xs.length := by omega
    have hx0 : xs[i]? = some xs[i] := List.getElem?_eq_getElem hil
    obtain ⟨u, hu, ru⟩ := rv.get hx0
    have hu' : us.toArray[i]? = some u := by simpa using hu
    have fin : ∀ h', ItAt k h' it l (i + 1) → Heap.SameBut it s.heap h' → wpAny (model X.prog X.w) A.in1 (updateSeq q (·.push u) >>= fun _ => again (.builtin "list.extend.loop" ⟨[.ref q, .ref it, .none], []⟩)) (fun fin s' => match fin with | .done f => Rs (.ok f) s' | .again c' => c'.quiet = true ∧ codeAny (model X.prog X.w) A c' Rs s') (fun e s' => Rs (.error e) s') { s with heap := h' } := fun h' p' sb => by
      have I2 := I.turnedL (t' := s.toks) (h' := h') (ch := [it]) (fun b o hb x => (sb.2 b fun z => hb (by simp [z])).trans x) (fun b hb => by rw [List.mem_singleton.mp hb]; exact hx _)
      obtain ⟨z, its, kk, r2, hl, e⟩ := I2.lstM upd_same
      have lt : (xs.take i).length < sizeLine := by
        obtain ⟨us2, r3, _⟩ := (hs (xs.take i)).held I2
        have := (hs (xs.take i))
        have le : xs.length ≤ sizeLine := by
          cases k
          · obtain ⟨_, _, _, h⟩ := I2.list (show SqL X.K _ l xs from this)
            exact h
          · obtain ⟨_, _, _, h⟩ := I2.tuple (show SqT X.K _ l xs from this)
            exact h
        rw [List.length_take]
        omega
      refine wpAny_bind (wpAny_updateSeq e rfl (wpAny_pure ⟨plainId_quiet PySem.F.plain_extend_loop _, ?_⟩) (by rw [List.size_toArray]; omega) (by show (its.toArray.push u).size ≤ sizeLine + 1; rw [Array.size_push, List.size_toArray]; omega))
      have I3 := I2.lset (its' := its ++ [u]) (ys := xs.take i ++ [xs[i]]) (t' := s.toks) (f := (·.push u)) upd_same e (by simp) (r2.append (.cons ru .nil)) (by rw [List.length_append, List.length_singleton]; omega)
      rw [upd_upd, ← List.take_succ_eq_append_getElem hil] at I3
      refine ih (i + 1) _ (by omega) I3 (p'.on fun o x => ?_)
      have nq : it ≠ q := fun z => by
        have := (hx (xs.take i)).1
        rw [z, upd_same] at this
        cases this
      exact (Heap.get?_update_other _ _ nq.symm).trans x
    refine wpAny_bind ?_
    cases k
    · exact wpAny_pyNext_list_item (show s.heap.IsListIter it l i from p) (show s.heap.IsList l us.toArray from sq) hu' fun h' a b => fin h' a b
    · exact wpAny_pyNext_tuple_item (show s.heap.IsTupleIter it l i from p) (show s.heap.IsTuple l us.toArray from sq) hu' fun h' a b => fin h' a b
end
section
variable {X : Cx} {C g a q l : Addr} {F : Str} {k : Bool} {xs : List V} {n : Nat}
theorem Same.fresh {H : Hp} {q : Addr} {o : HO} (h : H q = none) : Same H (upd H q o) := fun b u e => by rw [upd_ne (ne_of_none e h)]; exact e
theorem hint_own {P : Program} {w : World} {K : PySem.W.Frag} {mg : Str → Option Value} {base : Heap} {M : Model} {A : Around} {E : Value → Shared → Prop} {Q : Bool → Shared → Prop} {ox : Obj} {od : Option Obj} {s : Shared} (c : IterC P w K mg base C g F) (hK : K.In s.heap) (J : PySem.W.InstAt s.heap a ox C od) (h : Q true s) :
    wpAny M A (Builtin.List.listLengthHint (.ref a)) Q E s := by
  unfold Builtin.List.listLengthHint
  refine wpAny_bind (wpAny_bind (J.type.here ((PySem.W.looks_findIn hK c.nolen).here ?_)))
  refine PySem.W.KFB.if_not rfl (PySem.W.KFB.if_not rfl ?_)
  exact wpAny_bind (wpAny_bind (J.type.here ((PySem.W.looks_findIn hK c.nohint).here (wpAny_pure h))))
theorem call_listO {K : PySem.W.Frag} (hK : X.K = K) (c : IterC X.prog X.w X.K X.mg X.base C g F) (hr : Room (n + 3) X.A) : CallR X (.type "list") (rListO K C F) := by
  subst hK
  intro pins s σ H vs us Q I rv h
  obtain ⟨k, a, l, xs, rfl, hi, hq⟩ := h
  obtain ⟨u, rfl, ru⟩ := rv.one
  cases ru
  have b1 : Below X (n + 1) X.A.in1.in1 := Below.in1 (Below.in1 (⟨hr, rfl⟩ : Below X (n + 3) X.A))
  refine callType_codes (Q₁ := fun obj s₁ => obj = .ref s.heap.objs.size ∧ s₁ = { s with heap := s.heap.push { cls := .type "list", data := .seq #[] } }) PySem.F.called_list (PySem.F.typeCall_list_1 _) PySem.F.entry_list_init
    (code_list_new _ ⟨rfl, rfl⟩) ?_
  rintro obj s₁ ⟨rfl, rfl⟩
  have atq : (s.heap.push { cls := .type "list", data := .seq #[] }).get? s.heap.objs.size = some { cls := .type "list", data := .seq #[] } := Heap.get?_push_size _ rfl
  refine ⟨⟨_, atq, rfl⟩, PySem.F.args_list_init_2 _ _, ?_⟩
  have fr : H s.heap.objs.size = none := I.hok.fresh (Nat.le_refl _)
  have I1 : Inv X pins σ (upd H s.heap.objs.size (.lst [])) { s with heap := s.heap.push { cls := .type "list", data := .seq #[] } } := I.lnew (its := []) (t' := s.toks) .nil (Nat.zero_le _)
  have fin := hq _ fr
  show wpAny _ _ (do let old ← Builtin.List.listItems (.ref s.heap.objs.size); Builtin.List.listUpdate (.ref s.heap.objs.size) (fun _ => #[]); letGo old.toList.reverse; Builtin.List.listExtendWith (.ref s.heap.objs.size) (.ref a) .none) _ _ _
  refine wpAny_bind ?_
  unfold Builtin.List.listItems
  refine wpAny_bind (wpAny_seqItems atq rfl (wpAny_pure ?_))
  show wpAny _ _ (updateSeq s.heap.objs.size (fun _ => #[]) >>= fun _ => letGo (#[] : Array Value).toList.reverse >>= fun _ => Builtin.List.listExtendWith (.ref s.heap.objs.size) (.ref a) .none) _ _ _
  refine wpAny_bind (wpAny_updateSeq atq rfl ?_)
  have I2 := I1.lset (f := fun _ => #[]) (its := []) (its' := []) (ys := []) (t' := s.toks) upd_same atq rfl .nil (Nat.zero_le _)
  rw [upd_upd] at I2
  refine wpAny_bind (wpAny_letGo ?_)
  generalize s.heap.objs.size = q at *
  have hi2 : ∀ zs, IsIt X.K (upd H q (.lst zs)) a C F k l xs := fun zs => hi.same (Same.fresh fr)
  obtain ⟨dx, fs, ha, hl, hs⟩ := hi2 []
  have hne : q ≠ a := ne_of upd_same ha (fun z => nomatch z)
  obtain ⟨mA, J, _⟩ := ins_get I2.hok ha
  obtain ⟨od, J, _⟩ := J.look
  unfold Builtin.List.listExtendWith
  refine wpAny_bind (J.type.here ?_)
  have t1 : Builtin.List.listSameRef (.ref q) (.ref a) = false := by simp [Builtin.List.listSameRef, hne]
  have t2 : (Value.ref C == Value.type "list") = false := rfl
  have t3 : (Value.ref C == Value.type "tuple") = false := rfl
  simp only [t1, t2, t3, Bool.or_false, Bool.false_eq_true, if_false]
  refine wpAny_bind (wpAny_mono (own_begin c b1 I2 (hi2 [])) (fun v s' hv => ?_) fun _ _ z => z)
  obtain ⟨it, ev, ny, fi, I3⟩ := hv
  subst ev
  obtain ⟨dx', fs', ha', _, _⟩ := (hi2 []).same (Same.fresh (o := ItKO k l it) fi)
  obtain ⟨mA', J', _⟩ := ins_get I3.hok ha'
  obtain ⟨od', J', _⟩ := J'.look
  refine wpAny_bind (wpAny_holding (hint_own c I3.kIn J' ?_))
  have p := itKO_get I3 upd_same
  have fp := (ItX.inv_fp I3 (a := it) upd_same ny).2
  have nq : it ≠ q := fun z => by rw [z, upd_same] at fi; cases fi
  have fi0 : H it = none := by rw [upd_ne nq] at fi; exact fi
  have I4 := ItX.inv_drop (φ := fun h => ItAt k h it l 0) I3 upd_same
  rw [ItX.dropH_upd fi] at I4
  have go : ∀ s2, Inv X pins σ (upd H q (.lst [])) s2 → ItAt k s2.heap it l 0 → codeAny (model X.prog X.w) X.A.in1 (.builtin "list.extend.loop" ⟨[.ref q, .ref it, .none], []⟩) (wants (fun r s₂ => r = .none ∧ EP X pins σ Q (.ref q) s₂) X.xe) s2 := fun s2 I5 p5 =>
    fill_own (Room.hd b1.room) fr (fun zs => by obtain ⟨_, _, _, _, z⟩ := hi2 zs; exact z) (fun zs => ⟨by rw [upd_ne nq]; exact fi0, fp⟩) (fun s3 I6 => ⟨rfl, .ref q, _, I6, rfl, fin⟩) xs.length 0 s2 (by omega) (by simpa using I5) p5
  refine wpAny_ite_split (fun _ => ?_) (fun _ => wpAny_pure ⟨plainId_quiet PySem.F.plain_extend_loop _, go s' I4 p⟩)
  refine wpAny_bind (wpAny_rule (wpAny_bind ?_))
  show wpAny _ _ (updateSeq q (·.push .none) >>= fun _ => updateSeq q (·.pop)) _ _ _
  obtain ⟨z, its, kk, r3, hl3, e3⟩ := I4.lstM upd_same
  cases r3
  refine wpAny_bind (wpAny_updateSeq e3 rfl ?_)
  have I5 := I4.lset (f := (·.push Value.none)) (its' := [Value.none]) (ys := [.non]) (t' := s'.toks) upd_same e3 (by simp) (.cons rfl .nil) (by rw [List.length_singleton, sizeLine_eq]; decide)
  obtain ⟨z4, its4, k4, r4, hl4, e4⟩ := I5.lstM upd_same
  obtain ⟨u4, rfl, ru4⟩ := r4.one
  refine wpAny_updateSeq e4 rfl ?_ (by show 1 ≤ sizeLine; rw [sizeLine_eq]; decide) (by show 0 ≤ sizeLine + 1; exact Nat.zero_le _)
  have I6 := I5.lset (f := (·.pop)) (its := [u4]) (its' := []) (ys := []) (t' := s'.toks) upd_same e4 (by rfl) .nil (Nat.zero_le _)
  rw [upd_upd, upd_upd] at I6
  refine wpAny_pure ⟨plainId_quiet PySem.F.plain_extend_loop _, go _ I6 (p.on fun o x => ?_)⟩
  exact (Heap.get?_update_other _ _ nq.symm).trans ((Heap.get?_update_other _ _ nq.symm).trans x)
end

/-! ### enumerate of a tuple or a list -/
section
variable {P : Program} {w : World} {A : Around} {E : Value → Shared → Prop} {s : Shared}
theorem enum_item {k : Bool} {e it l : Addr} {i : Nat} {xs : Array Value} {x old : Value} {Q : Value → Shared → Prop} (he : IsEnum s.heap e it i old) (p : ItAt k s.heap it l i) (q : SqAt k s.heap l xs) (hx : xs[i]? = some x) (ne : e ≠ it)
    (fin : ∀ h', IsEnumOut h' e it ((i : Int) + 1) x s.heap.objs.size → ItAt k h' it l (i + 1) → h'.get? s.heap.objs.size = some { cls := .type "tuple", data := .seq #[.int i s.toks, x] } →
      (∀ b o, b ≠ e → b ≠ it → s.heap.get? b = some o → h'.get? b = some o) → Q (.ref s.heap.objs.size) { s with heap := h', toks := s.toks + 1 }) :
    wpAny (model P w) A (Builtin.«enumerate.__next__» ⟨[.ref e], []⟩) (fun f z => ∃ v, f = .done (.ret v) ∧ Q v z) E s := by
  obtain ⟨hp, g, d, tk, os⟩ := s
  show wpAny _ _ (field (.ref e) 2 >>= _) _ _ _
  refine wpAny_bind (wpAny_field he rfl (x := .ref it) rfl (wpAny_bind (draw_item p q hx fun ha pa sa => ?_)))
  replace sa : Heap.SameBut it hp ha := sa
  have ea : IsEnum ha e it i old := (sa.2 e ne).trans he
  show wpAny _ _ (field (.ref e) 3 >>= _) _ _ ⟨ha, g, d, tk, os⟩
  refine wpAny_bind (wpAny_field ea rfl (x := rawInt i) rfl ?_)
  show wpAny _ _ (field (.ref e) 4 >>= _) _ _ ⟨ha, g, d, tk, os⟩
  refine wpAny_bind (wpAny_field ea rfl (x := .none) rfl ?_)
  show wpAny _ _ (mkInt i >>= _) _ _ ⟨ha, g, d, tk, os⟩
  refine wpAny_bind (wpAny_mkInt ?_)
  show wpAny _ _ (setField (.ref e) 3 (rawInt ((i : Int) + 1)) >>= _) _ _ ⟨ha, g, d, tk + 1, os⟩
  refine wpAny_bind (wpAny_setField_rec ea (by simp) fun hb eb sb => ?_)
  replace sb : Heap.SameBut e ha hb := sb
  replace eb : IsEnum hb e it ((i : Int) + 1) old := eb
  show wpAny _ _ (setField (.ref e) 4 .none >>= _) _ _ ⟨hb, g, d, tk + 1, os⟩
  refine wpAny_bind (wpAny_setField_rec eb (by simp) fun hc ec sc => ?_)
  replace sc : Heap.SameBut e hb hc := sc
  replace ec : IsEnum hc e it ((i : Int) + 1) old := ec
  show wpAny _ _ (newTuple [.int i tk, x] >>= _) _ _ ⟨hc, g, d, tk + 1, os⟩
  refine wpAny_bind (wpAny_newTuple ?_)
  have size : hc.objs.size = hp.objs.size := by rw [sc.1, sb.1, sa.1]
  have elt : e < hp.objs.size := Heap.lt_size he
  have ed : IsEnum (hc.push { cls := .type "tuple", data := .seq #[.int i tk, x] }) e it ((i : Int) + 1) old := Heap.get?_push_of_some _ ec
  have td : (hc.push { cls := .type "tuple", data := .seq #[.int i tk, x] }).get? hp.objs.size = some { cls := .type "tuple", data := .seq #[.int i tk, x] } := by rw [← size]; exact Heap.get?_push_size _ rfl
  have kd : ∀ b o, b ≠ e → b ≠ it → hp.get? b = some o → (hc.push { cls := .type "tuple", data := .seq #[.int i tk, x] }).get? b = some o := fun b o h1 h2 hb' =>
    Heap.get?_push_of_some _ (sc.extBut b o h1 (sb.extBut b o h1 (sa.extBut b o h2 hb')))
  have pd : ItAt k (hc.push { cls := .type "tuple", data := .seq #[.int i tk, x] }) it l (i + 1) := ((pa.off sb.extBut ne.symm).off sc.extBut ne.symm).on fun o z => Heap.get?_push_of_some _ z
  generalize hc.push { cls := .type "tuple", data := .seq #[.int i tk, x] } = hd at ed td kd pd ⊢
  show wpAny _ _ (Builtin.SmallTypes.ownedTupleIsFree (.ref e) >>= _) _ _ ⟨hd, g, d, tk + 1, os⟩
  rw [size]
  refine wpAny_bind ?_
  unfold Builtin.SmallTypes.ownedTupleIsFree
  refine wpAny_bind (wpAny_field ed rfl (x := .none) rfl (wpAny_pure ?_))
  simp only [if_true]
  refine wpAny_bind (wpAny_rule (wpAny_bind (wpAny_field ed rfl (x := old) rfl ?_)))
  refine wpAny_bind (wpAny_setField_rec ed (by simp) fun hf ef sf => ?_)
  replace sf : Heap.SameBut e hd hf := sf
  replace ef : IsEnum hf e it ((i : Int) + 1) x := ef
  show wpAny _ _ (Builtin.SmallTypes.ownedTupleHandOut (.ref e) (.ref hp.objs.size) >>= _) _ _ ⟨hf, g, d, tk + 1, os⟩
  refine wpAny_bind ?_
  unfold Builtin.SmallTypes.ownedTupleHandOut
  refine wpAny_bind (wpAny_setField_rec ef (by simp) fun hg eg sg => ?_)
  replace sg : Heap.SameBut e hf hg := sg
  replace eg : IsEnumOut hg e it ((i : Int) + 1) x hp.objs.size := eg
  refine wpAny_setField_rec eg (by simp) fun hh eh sh => ?_
  replace sh : Heap.SameBut e hg hh := sh
  replace eh : IsEnumOut hh e it ((i : Int) + 1) x hp.objs.size := eh
  have up : ∀ b o, b ≠ e → hd.get? b = some o → hh.get? b = some o := fun b o h1 z => sh.extBut b o h1 (sg.extBut b o h1 (sf.extBut b o h1 z))
  exact wpAny_bind (wpAny_letGo (wpAny_pure ⟨_, rfl, fin hh eh (pd.on fun o z => up _ o ne.symm z) (up _ _ (Nat.ne_of_gt elt) td) fun b o h1 h2 z => up b o h1 (kd b o h1 h2 z)⟩))
theorem enum_next {k : Bool} {e it l : Addr} {i : Nat} {xs : Array Value} {x old : Value} {Q : Option Value → Shared → Prop} (he : IsEnum s.heap e it i old) (p : ItAt k s.heap it l i) (q : SqAt k s.heap l xs) (hx : xs[i]? = some x) (ne : e ≠ it)
    (fin : ∀ h', IsEnumOut h' e it ((i : Int) + 1) x s.heap.objs.size → ItAt k h' it l (i + 1) → h'.get? s.heap.objs.size = some { cls := .type "tuple", data := .seq #[.int i s.toks, x] } →
      (∀ b o, b ≠ e → b ≠ it → s.heap.get? b = some o → h'.get? b = some o) → Q (some (.ref s.heap.objs.size)) { s with heap := h', toks := s.toks + 1 }) : wpAny (model P w) A (pyNext (.ref e)) Q E s := by
  have hT : s.TypeIs (.ref e) "enumerate" := ⟨_, he, rfl⟩
  unfold pyNext
  refine wpAny_bind (wpAny_attempt (wpAny_callSpecial?_slot (name := Str.ofString "__next__") hT PySem.F.slot_enumerate_next (wpAny_call_entry PySem.F.slot_enumerate_next hT PySem.F.entry_enumerate_next ?_ (PySem.F.args_enumerate_next_1 _))))
  exact enum_item he p q hx ne fun h' a1 a2 a3 a4 => wpAny_pure (fin h' a1 a2 a3 a4)
theorem enum_stop {k : Bool} {e it l : Addr} {i : Nat} {xs : Array Value} {old : Value} {Q : Option Value → Shared → Prop} (calm : A.handled = none) (he : IsEnum s.heap e it i old) (p : ItAt k s.heap it l i) (q : SqAt k s.heap l xs) (hx : xs[i]? = none)
    (fin : ∀ h', Heap.ExtBut it s.heap h' → Q none { s with heap := h' }) : wpAny (model P w) A (pyNext (.ref e)) Q E s := by
  have hT : s.TypeIs (.ref e) "enumerate" := ⟨_, he, rfl⟩
  unfold pyNext
  refine wpAny_bind (wpAny_attempt (wpAny_callSpecial?_slot (name := Str.ofString "__next__") hT PySem.F.slot_enumerate_next (wpAny_call_entry PySem.F.slot_enumerate_next hT PySem.F.entry_enumerate_next ?_ (PySem.F.args_enumerate_next_1 _))))
  show wpAny _ _ (field (.ref e) 2 >>= _) _ _ _
  refine wpAny_bind (wpAny_field he rfl (x := .ref it) rfl (wpAny_bind (draw_end calm p q hx fun h' x eb hx' => ?_)))
  obtain ⟨o, o1, o2⟩ := hx'
  exact wpAny_bind (wpAny_isInstance (T := "StopIteration") (b := true) ⟨o, o1, o2⟩ isSubtype_stop (wpAny_pure (fin _ eb)))
end
abbrev enO (it : Addr) : Obj := { cls := .type "enumerate", data := .fields #[.none, .bool false, .ref it, rawInt 0, .none, .none] }
abbrev tiO (l : Addr) : Obj := { cls := .type "tuple_iterator", data := .fields #[.ref l, .int 0 0] }
theorem meets_enumT (l : Addr) (xs : Array Value) : Meets (Builtin.«enumerate.__new__» ⟨[.type "enumerate", .ref l], []⟩) (fun _ R s => s.heap.IsTuple l xs ∧ R (.ok (.ret (.ref (s.heap.push (tiO l)).objs.size))) { s with heap := (s.heap.push (tiO l)).push (enO s.heap.objs.size) }) :=
  .of_wp fun prog w A R s h => by
    obtain ⟨hp, g, d, tk, os⟩ := s
    obtain ⟨t, h⟩ := h
    have sub := sub_enumerate
    have u : Heap.IsTuple (Shared.heap ⟨hp, g, d, tk, os⟩) l xs := t
    obtain ⟨o, e, c, n, dd⟩ := t
    have hT : Shared.TypeIs ⟨hp, g, d, tk, os⟩ (.ref l) "tuple" := ⟨o, e, c⟩
    wp_walk using wpAny_loadPart' e
    refine wpAny_stack_any fun st => wpAny_pure ?_
    split
    · rename_i c' _ _ _ _ _
      cases (c' == Value.type "enumerate") <;> (wp_walk using wpAny_pyIter_tuple u; exact ⟨_, rfl, h⟩)
    · wp_walk using wpAny_pyIter_tuple u
      exact ⟨_, rfl, h⟩
theorem call_enum {P : Program} {w : World} {A : Around} {E : Value → Shared → Prop} {s : Shared} {k : Bool} {l : Addr} {xs : Array Value} {Q : Value → Shared → Prop} (a : SqAt k s.heap l xs)
    (fin : ∀ h', IsEnum h' (s.heap.objs.size + 1) s.heap.objs.size 0 .none → ItAt k h' s.heap.objs.size l 0 → (∀ b o, s.heap.get? b = some o → h'.get? b = some o) → Q (.ref (s.heap.objs.size + 1)) { s with heap := h' }) :
    wpAny (model P w) A (call (.type "enumerate") [.ref l]) Q E s := by
  cases k
  · exact call_enumerate_list (show s.heap.IsList l xs from a) fun h' e i _ kp => fin h' e i kp
  · refine callType_new PySem.F.called_enumerate (by decide) (PySem.F.typeCall_enumerate_1 _) (PySem.F.newCall_enumerate_1 _) (fun o => PySem.F.args_object_init_2 o _) PySem.F.entry_enumerate_new (meets_enumT l xs) ⟨show s.heap.IsTuple l xs from a, ?_⟩
    have z : (s.heap.push (tiO l)).objs.size = s.heap.objs.size + 1 := Heap.size_push ..
    have ge : ((s.heap.push (tiO l)).push (enO s.heap.objs.size)).get? (s.heap.objs.size + 1) = some (enO s.heap.objs.size) := by
      rw [← z]
      exact Heap.get?_push_size _ rfl
    show _ ∧ _
    rw [z]
    exact ⟨⟨_, ge, rfl⟩, fin _ ge ⟨_, Heap.get?_push_of_some _ (Heap.get?_push_size _ rfl), rfl, rfl⟩ fun b o x => Heap.get?_push_of_some _ (Heap.get?_push_of_some _ x)⟩
def ItE2 (K : PySem.W.Frag) (k : Bool) (a : Addr) (xs : List V) : It :=
  ⟨fun i H => SqK K k H a xs ∧ i < xs.length, fun i H v H' => ∃ T x, v = .ref T ∧ H T = none ∧ H' = upd H T (.tup [.int (i : Nat), x]) ∧ xs[i]? = some x, fun i H => SqK K k H a xs ∧ xs.length ≤ i⟩
theorem turn_enumK {P : Program} {w : World} {K : PySem.W.Frag} {elts : List Expr} {kk : Nat} {tpos : Pos} {k : Bool} {a e it : Addr} {xs : List V} :
    Turn P w K (.Tuple elts kk tpos) (ItE2 K k a xs) [e, it] e (fun i h => (∃ old, IsEnum h e it ((i : Nat) : Int) old) ∧ ItAt k h it a i ∧ e ≠ it) where
  mem := by simp
  obj := fun i h st b hb => by
    obtain ⟨⟨old, he⟩, p, _⟩ := st
    have q : b = e ∨ b = it := by simpa using hb
    rcases q with q | q
    · rw [q]; exact ⟨_, he, fun v z => nomatch z⟩
    · rw [q]; exact p.obj
  keep := fun i h h' st kp => let ⟨⟨old, he⟩, p, ne⟩ := st; ⟨⟨old, kp e (by simp) _ he⟩, p.on fun o q => kp it (by simp) o q, ne⟩
  item := by
    intro X hP hw hK hc i pins s σ H E I hf st hg
    subst hP hw hK
    obtain ⟨⟨old, he⟩, p, ne⟩ := st
    obtain ⟨sq, lt⟩ := hg
    obtain ⟨us, rv, ha⟩ := sq.held I
    have hx : xs[i]? = some xs[i] := List.getElem?_eq_getElem lt
    generalize xs[i] = x at hx
    obtain ⟨u, hu, ru⟩ := rv.get hx
    have elt := Heap.lt_size he
    have ilt := p.lt
    refine enum_next he p ha (x := u) (by simpa using hu) ne fun h' ho p' hT kp => ?_
    refine ⟨_, rfl, wpAny_letOwnedTupleGo_enum (s := { s with heap := h', toks := s.toks + 1 }) ho fun h2 e2 sb => ?_⟩
    have t2 : h2.get? s.heap.objs.size = some { cls := .type "tuple", data := .seq #[.int i s.toks, u] } := (sb.2 _ (Nat.ne_of_gt elt)).trans hT
    have new : ObjOk X.prog X.w (upd H s.heap.objs.size (.tup [.int (i : Nat), x])) h2 s.heap.objs.size (.tup [.int (i : Nat), x]) := ⟨by show 2 ≤ sizeLine; decide, [.int i s.toks, u], .cons ⟨_, rfl⟩ (.cons ru .nil), ⟨_, t2, rfl, _, rfl⟩⟩
    have outs : ∀ b o, b ∉ [e, it] → s.heap.get? b = some o → h2.get? b = some o := fun b o hb q => (sb.2 b fun z => hb (by simp [z])).trans (kp b o (fun z => hb (by simp [z])) (fun z => hb (by simp [z])) q)
    have I1 : Inv X pins σ (upd H s.heap.objs.size (.tup [.int (i : Nat), x])) { s with heap := h2, toks := s.toks + 1 } := I.turnedNew (ch := [e, it]) outs hf (Nat.le_refl _) new
    refine ⟨.ref s.heap.objs.size, _, I1, rfl, ⟨_, x, rfl, I.hok.fresh (Nat.le_refl _), rfl, hx⟩, ⟨⟨u, ?_⟩, p'.on fun o q => (sb.2 it ne.symm).trans q, ne⟩, fun b hb => ?_⟩
    · rw [show ((i + 1 : Nat) : Int) = (i : Int) + 1 by omega]
      exact e2
    · have q : b < s.heap.objs.size := by
        have z : b = e ∨ b = it := by simpa using hb
        rcases z with z | z
        · rw [z]; exact elt
        · rw [z]; exact ilt
      rw [upd_ne (Nat.ne_of_lt q)]
      exact (hf b hb).1
  done := by
    intro X hP hw hK hc i pins s σ H E I hf st hg
    subst hP hw hK
    obtain ⟨⟨old, he⟩, p, ne⟩ := st
    obtain ⟨sq, le⟩ := hg
    obtain ⟨us, rv, ha⟩ := sq.held I
    have hl := rv.length
    refine enum_stop (I.ok.hd hc) he p ha (by simp; omega) fun h' eb => ⟨rfl, I.turnedL (t' := s.toks) (ch := [e, it]) (fun b o hb q => eb b o (fun z => hb (by simp [z])) q) hf⟩
  self := fun A i s Q E st h => let ⟨⟨_, he⟩, _⟩ := st; wpAny_pyIter_enum he h
def iEnK (K : PySem.W.Frag) (ta : TA) : TI := fun σ H R => ta σ H fun vs H1 => ∃ k a xs, vs = [.ref a] ∧ SqK K k H1 a xs ∧ R (ItE2 K k a xs) H1
theorem pi_enK {X : Cx} {K : PySem.W.Frag} {e : Expr} {ta : TA} {p pos tpos : Pos} {elts : List Expr} {kk : Nat} (hK : X.K = K) (hg : Gl X "enumerate") (hm : X.mg "enumerate" = none) (ha : PA X [e] ta) (hs : starEach [e] X.env = [(false, eval e X.env)] := by rfl) :
    PI X (.Tuple elts kk tpos) (.Call (.Name "enumerate" p) [e] [] pos) (iEnK K ta) := by
  subst hK
  refine ⟨fun pins s σ H R I h => ?_⟩
  refine Call_ (ld_blt I hg hm boot_enumerate (PyProof.Rows.callWith_type1 (thn (ha.run pos pins s σ H _ I h) fun us s1 ⟨vs, H1, I1, r1, q1⟩ => ?_) hs rfl))
  obtain ⟨k, a, xs, ev, sq, q⟩ := q1
  subst ev
  cases r1 with
  | cons r rr =>
    cases rr
    cases r
    obtain ⟨us, rv, h1⟩ := sq.held I1
    refine call_enum h1 fun h' he p kp => wpAny_pyIter_enum he ?_
    have I2 : Inv X pins σ H1 { s1 with heap := h' } := I1.kept (t' := s1.toks) kp
    refine ⟨s1.heap.objs.size + 1, [s1.heap.objs.size + 1, s1.heap.objs.size], _, _, H1, rfl, I2, turn_enumK, ⟨⟨.none, he⟩, p, Nat.succ_ne_self _⟩, fun b hb => ?_, q⟩
    have le : s1.heap.objs.size ≤ b := by
      have z : b = s1.heap.objs.size + 1 ∨ b = s1.heap.objs.size := by simpa using hb
      rcases z with z | z <;> rw [z]
      · exact Nat.le_add_right _ _
      · exact Nat.le_refl _
    exact I1.fpOk le (I1.hok.fresh le)

/-! ### x.count(y): flat items -/
theorem count_eqU {x : V} : ∀ {xs : List V} {us : List Value}, Vals xs us → xs.all flatV = true → us.countP (eqU x) = xs.countP fun y => eqV y x
  | _, _, .nil, _ => rfl
  | y :: xs, u :: us, .cons r t, f => by
    rw [List.all_cons, Bool.and_eq_true] at f
    rw [List.countP_cons, List.countP_cons, eqU_of r f.1, count_eqU t f.2]
def rCntK (K : PySem.W.Frag) (k : Bool) : V → List V → Hp → VK → Prop := fun x xs H Q => ∃ (p : Addr) (zs : List V) (y : V), x = .ref p ∧ xs = [y] ∧ SqK K k H p zs ∧ flatV y = true ∧ zs.all flatV = true ∧ Q (.int (zs.countP fun z => eqV z y : Nat)) H
section
variable {X : Cx} {K : PySem.W.Frag}
theorem mt_cntL (hK : X.K = K) : MtR X "list.count" (rCntK K false) := by
  subst hK
  intro pins s σ H x xs v us Q I rx rxs h
  obtain ⟨p, zs, y, rfl, rfl, hs, fy, fz, q⟩ := h
  cases rx
  obtain ⟨u, rfl, ru⟩ := rxs.one
  obtain ⟨its, rv, ⟨⟨cls, dd, data, sl⟩, n, ho, hc, hdn, hd⟩, hlen⟩ := I.list (show SqL X.K H p zs from hs)
  simp only at hc hd
  subst hc hd
  refine call_meets PySem.F.slot_list_count ⟨_, ho, rfl⟩ PySem.F.entry_list_count (PySem.F.args_list_count_2 _ _) (SeqAt.list_countAt p its.toArray n dd sl u (eqU y)) ⟨ho, fun w hw => mem_eqAt ru fy rv fz w (by simpa using hw), ?_⟩
  refine ⟨.int (zs.countP fun z => eqV z y : Nat), H, I.tok _, ⟨s.toks, ?_⟩, q⟩
  show Value.int ((its.toArray.toList.countP (eqU y) : Nat) : Int) s.toks = Value.int ((zs.countP fun z => eqV z y : Nat) : Int) s.toks
  rw [show its.toArray.toList = its from by simp, count_eqU rv fz]
theorem mt_cntT (hK : X.K = K) : MtR X "tuple.count" (rCntK K true) := by
  subst hK
  intro pins s σ H x xs v us Q I rx rxs h
  obtain ⟨p, zs, y, rfl, rfl, hs, fy, fz, q⟩ := h
  cases rx
  obtain ⟨u, rfl, ru⟩ := rxs.one
  obtain ⟨its, rv, ⟨⟨cls, dd, data, sl⟩, ho, hc, n, hd⟩, hlen⟩ := I.tuple (show SqT X.K H p zs from hs)
  simp only at hc hd
  subst hc hd
  refine call_meets PySem.F.slot_tuple_count ⟨_, ho, rfl⟩ PySem.F.entry_tuple_count (PySem.F.args_tuple_count_2 _ _) (SeqAt.tuple_countAt p its.toArray n dd sl u (eqU y)) ⟨ho, fun w hw => mem_eqAt ru fy rv fz w (by simpa using hw), ?_⟩
  refine ⟨.int (zs.countP fun z => eqV z y : Nat), H, I.tok _, ⟨s.toks, ?_⟩, q⟩
  show Value.int ((its.toArray.toList.countP (eqU y) : Nat) : Int) s.toks = Value.int ((zs.countP fun z => eqV z y : Nat) : Int) s.toks
  rw [show its.toArray.toList = its from by simp, count_eqU rv fz]
end
/-! ### defs with *args -/
/-- a def's promise by its parameters and the tuple of the rest -/
def starSp (n : Nat) (sp : Sp) : Sp := fun vs H Q E => ∃ ws rest, vs = ws ++ rest ∧ ws.length = n ∧ rest.length ≤ sizeLine ∧ ∀ p, H p = none → sp (ws ++ [V.ref p]) (upd H p (.tup rest)) Q E
theorem fnr_star {CX : CXT} {P : Program} {w : World} {K : PySem.W.Frag} {mg : Str → Option Value} {base : Heap} {k : Nat} {x qual pv : Str} {st : Stmt} {f : Addr} {fd : FuncData} {N ps : List Str} {sp : Sp} (F : Fun K x qual st f fd) (S : FnScope N (ps ++ [pv]) (defScope st)) (hCX : StX.CXUp CX)
    (hb : ∀ (kV doc pm : Value) (an : Option Addr) (cdv ct : Value) (us rest : List Value), us.length = ps.length → bindArgs (PySem.W.fnOf x qual (defArgs st) (defBody st) (defScope st) .none kV doc pm an cdv ct) ⟨us ++ rest, []⟩ = (newTuple rest >>= fun t => pure (ps.zip us ++ [(pv, t)])))
    (hbody : ∀ (cdv : Value) (A : Around) (outer : List Env) (s : Shared) (H : Hp) (vs : List V) (Q : VK) (E : XK), Room k (A.deeper (envOfC qual (defScope st) s.heap.objs.size f cdv)) → sp vs H Q E →
      ∃ t, PSs (cxOf CX P w K mg base N qual (defScope st) f cdv A outer s H E) (defBody st) t ∧ t { nx := fun _ H' => Q .non H', rt := Q } (L2.start N vs) H) : FnR P w K mg base CX (k + 1) f (starSp ps.length sp) := by
  obtain ⟨oc, od, kV, doc, pm, an, cdv, ct, osl, rfl, lk, hcd⟩ := F.ex
  exact StX.fn_star lk hcd S hCX (hb kV doc pm an cdv ct) fun A outer s H vs Q E hr h => hbody cdv A outer s H vs Q E hr h

/-- isinstance(e, (A, B)), e the caught error, which has no fields -/
def rIsN2 (K : PySem.W.Frag) (D a : Addr) (cls : Value) (d : Option Addr) : List V → Hp → VK → Prop := fun xs H Q => ∃ (tp Y1 Y2 : Addr) (b : Bool),
  xs = [.ref a, .ref tp] ∧ cls = .ref D ∧ d = none ∧ H tp = some (.tup [.ref Y1, .ref Y2]) ∧ PySem.W.kitAny K (.ref D) [.ref Y1, .ref Y2] = some b ∧ Q (.bl b) H
theorem call_isN2 {X : Cx} {a D : Addr} {oe : Obj} {cls : Value} {d : Option Addr} {pn : List (Addr × Obj)} (C : IsC X.K D) (hz : Zc cls d oe) (hf : ∃ vs, oe.data = .fields vs) : CallR (X.suite a ((a, oe) :: pn)) (.builtin "isinstance") (rIsN2 X.K D a cls d) := fun pins s σ H xs us Q I r h => by
  obtain ⟨tp, Y1, Y2, b, ex, e1, e2, hT, ek, q⟩ := h
  subst ex e1 e2
  obtain ⟨u1, u2, eu, rx, rt⟩ : ∃ u1 u2, us = [u1, u2] ∧ RelV (.ref a) u1 ∧ RelV (.ref tp) u2 := by
    cases r with
    | cons rx rr =>
      cases rr with
      | cons rt rr =>
        cases rr
        exact ⟨_, _, rfl, rx, rt⟩
  subst eu
  cases (show u1 = Value.ref a from rx)
  cases (show u2 = Value.ref tp from rt)
  have hg : s.heap.get? a = some oe := (I.pin (a, oe) (List.mem_append_left _ List.mem_cons_self)).1
  have J : PySem.W.InstAt s.heap a oe D none := by
    obtain ⟨vs, hv⟩ := hf
    obtain ⟨oc, odd, oda, osl⟩ := oe
    obtain ⟨h1, h2⟩ := hz
    dsimp only at h1 h2 hv
    subst h1 h2 hv
    exact ⟨hg, rfl, rfl, True.intro⟩
  obtain ⟨_, its, rv, o, h1, h2, n, h3⟩ := (show ObjOk X.prog X.w H s.heap tp (.tup [.ref Y1, .ref Y2]) from I.hok tp _ hT)
  have e3 : its = [.ref Y1, .ref Y2] := by
    cases rv with
    | cons ra rr =>
      cases rr with
      | cons rb rr =>
        cases rr
        cases (show _ = Value.ref Y1 from ra)
        cases (show _ = Value.ref Y2 from rb)
        rfl
  subst e3
  obtain ⟨oc, od', dt, sl⟩ := o
  simp only at h2 h3
  subst h2 h3
  exact PySem.W.kia_tup (PySem.W.kitx_exc C.c C.ga C.gt C.sub C.kc C.kg C.kt C.ob) I.kIn J h1 ek (fun z => nomatch z) fun tk => ⟨.bl b, H, I.kept (t' := tk) fun _ _ z => z, rfl, q⟩

section
/-- a block within a block that captures nothing: whatever stands around it -/
theorem blkOk_in {N : List Str} {sc scope : Scope} {own : List (Str × Nat)} (h : blkC N { kind := .function, names := [], isGenerator := false, isCoroutine := false } scope own = true) : BlkOk N sc scope own := by
  have q := blkOk_by h
  exact ⟨q.kind, q.uniq, q.ix, fun y hy e => (by rcases q.free y hy e with k | k <;> cases k), q.own⟩
end

abbrev zbO (TI TO T : Addr) (f : Bool) : Obj := { cls := .type "zip", data := .fields #[rawInt T, .bool f, .bool false, .ref TI, .ref TO] }
def ZB (h : Heap) (z TI TO T : Addr) (f : Bool) : Prop := h.get? z = some (zbO TI TO T f)
theorem wpAny_alive {M : Model} {A : Around} {E : Value → Shared → Prop} {s : Shared} {a : Addr} {Q : Option Obj → Shared → Prop} (h : Q (s.heap.get? a) s) : wpAny M A (loadIfAlive a) Q E s := fun Γ p _ => h
section
variable {P : Program} {w : World} {A : Around} {E : Value → Shared → Prop} {s : Shared}
theorem SqAt.on {k : Bool} {h h' : Heap} {a : Addr} {xs : Array Value} (x : SqAt k h a xs) (e : ∀ o, h.get? a = some o → h'.get? a = some o) : SqAt k h' a xs := by
  cases k
  · obtain ⟨o, q, r⟩ := (show h.IsList a xs from x)
    exact ⟨o, e o q, r⟩
  · obtain ⟨o, q, r⟩ := (show h.IsTuple a xs from x)
    exact ⟨o, e o q, r⟩
theorem zipB_busy {z TI TO T : Addr} {f : Bool} {oT : Obj} (Z : ZB s.heap z TI TO T f) (hT : s.heap.get? T = some oT) : wpAny (model P w) A (Builtin.SmallTypes.ownedTupleIsFree (.ref z)) (fun b s' => b = false ∧ ∃ h1, s' = { s with heap := h1 } ∧ ZB h1 z TI TO T true ∧ (∀ c o, c ≠ z → s.heap.get? c = some o → h1.get? c = some o) ∧ h1.objs.size = s.heap.objs.size) E s := by
  unfold Builtin.SmallTypes.ownedTupleIsFree
  refine wpAny_bind (wpAny_field Z rfl (x := rawInt T) rfl ?_)
  show wpAny _ _ (loadIfAlive T >>= _) _ _ _
  refine wpAny_bind (wpAny_alive ?_)
  rw [hT]
  cases f with
  | false =>
    refine wpAny_bind (wpAny_field Z rfl (x := .bool false) rfl ?_)
    show wpAny _ _ (setField (.ref z) 1 (.bool true) >>= fun _ => pure false) _ _ _
    exact wpAny_bind (wpAny_setField_rec Z (by simp) fun h1 e1 s1 => wpAny_pure ⟨rfl, h1, rfl, e1, fun c o n q => s1.extBut c o n q, s1.1⟩)
  | true =>
    refine wpAny_bind (wpAny_field Z rfl (x := .bool true) rfl ?_)
    exact wpAny_pure ⟨rfl, s.heap, rfl, Z, fun c o _ q => q, rfl⟩
theorem zipB_item {k1 k2 : Bool} {z TI TO T i1 i2 l1 l2 : Addr} {f : Bool} {n : Nat} {xs ys : Array Value} {x y : Value} {oT : Obj} {Q : Value → Shared → Prop} (D : ZipApart z TI TO i1 i2 l1 l2) (Z : ZB s.heap z TI TO T f) (hTI : IsPair s.heap TI (.ref i1) (.ref i2)) (hT : s.heap.get? T = some oT)
    (p1 : ItAt k1 s.heap i1 l1 n) (p2 : ItAt k2 s.heap i2 l2 n) (q1 : SqAt k1 s.heap l1 xs) (q2 : SqAt k2 s.heap l2 ys) (hx : xs[n]? = some x) (hy : ys[n]? = some y)
    (fin : ∀ h', ZB h' z TI TO T true → ItAt k1 h' i1 l1 (n + 1) → ItAt k2 h' i2 l2 (n + 1) → IsPair h' s.heap.objs.size x y → (∀ c o, c ≠ z → c ≠ i1 → c ≠ i2 → s.heap.get? c = some o → h'.get? c = some o) → Q (.ref s.heap.objs.size) { s with heap := h' }) :
    wpAny (model P w) A (Builtin.«zip.__next__» ⟨[.ref z], []⟩) (fun f z' => ∃ v, f = .done (.ret v) ∧ Q v z') E s := by
  show wpAny _ _ (field (.ref z) 2 >>= _) _ _ _
  refine wpAny_bind (wpAny_field Z rfl (x := .bool false) rfl ?_)
  show wpAny _ _ (field (.ref z) 3 >>= _) _ _ _
  refine wpAny_bind (wpAny_field Z rfl (x := .ref TI) rfl (wpAny_bind (wpAny_seqItems hTI rfl ?_)))
  show wpAny _ _ (Builtin.SmallTypes.ownedTupleIsFree (.ref z) >>= _) _ _ _
  refine wpAny_bind (wpAny_mono (zipB_busy Z hT) (fun b s' hb => ?_) fun _ _ x => x)
  obtain ⟨rfl, h1, rfl, Z1, kp, sz⟩ := hb
  simp only [Bool.false_eq_true, if_false]
  simp
  have a1 : ItAt k1 h1 i1 l1 n := p1.on fun o q => kp _ o D.i1z q
  have a2 : ItAt k2 h1 i2 l2 n := p2.on fun o q => kp _ o D.i2z q
  have b1 : SqAt k1 h1 l1 xs := q1.on fun o q => kp _ o D.l1z q
  have b2 : SqAt k2 h1 l2 ys := q2.on fun o q => kp _ o D.l2z q
  refine wpAny_bind (wpAny_holding ?_)
  show wpAny _ _ (Builtin.SmallTypes.nextOf (.ref i1) >>= _) _ _ _
  refine wpAny_bind (draw_item a1 b1 hx fun hb pb sb => wpAny_pure ?_)
  refine wpAny_bind (wpAny_pure (wpAny_bind ?_))
  refine wpAny_bind (wpAny_holding ?_)
  show wpAny _ _ (Builtin.SmallTypes.nextOf (.ref i2) >>= _) _ _ _
  refine wpAny_bind (draw_item (a2.off sb.extBut D.i12.symm) (b2.off sb.extBut D.l2i1) hy fun hc pc sc => wpAny_pure ?_)
  refine wpAny_bind (wpAny_pure (wpAny_pure (wpAny_bind (wpAny_newTuple ?_ (by show 2 ≤ sizeLine; decide)))))
  have zc : ZB hc z TI TO T true := sc.extBut _ _ D.i2z.symm (sb.extBut _ _ D.i1z.symm Z1)
  have size : hc.objs.size = s.heap.objs.size := by rw [sc.1, sb.1]; exact sz
  have up : ∀ c o, hc.get? c = some o → (hc.push { cls := .type "tuple", data := .seq #[x, y] }).get? c = some o := fun c o q => Heap.get?_push_of_some _ q
  have tn : IsPair (hc.push { cls := .type "tuple", data := .seq #[x, y] }) hc.objs.size x y := Heap.get?_push_size _ rfl
  refine wpAny_pure ⟨_, rfl, ?_⟩
  show Q (.ref hc.objs.size) _
  rw [size] at tn ⊢
  exact fin _ (up _ _ zc) ((pb.off sc.extBut D.i12).on fun o q => up _ o q) (pc.on fun o q => up _ o q) tn fun c o c1 c2 c3 q => up c o (sc.extBut _ _ c3 (sb.extBut _ _ c2 (kp c o c1 q)))
theorem zipB_end {k1 k2 : Bool} {z TI TO T i1 i2 l1 l2 : Addr} {f : Bool} {n : Nat} {xs ys : Array Value} {oT : Obj} {Q : Fin → Shared → Prop} (calm : A.handled = none) (D : ZipApart z TI TO i1 i2 l1 l2) (Z : ZB s.heap z TI TO T f) (hTI : IsPair s.heap TI (.ref i1) (.ref i2)) (hT : s.heap.get? T = some oT)
    (p1 : ItAt k1 s.heap i1 l1 n) (p2 : ItAt k2 s.heap i2 l2 n) (q1 : SqAt k1 s.heap l1 xs) (q2 : SqAt k2 s.heap l2 ys) (stop : xs[n]? = none ∨ ys[n]? = none)
    (fin : ∀ h' e, (∀ c o, c ≠ z → c ≠ i1 → c ≠ i2 → s.heap.get? c = some o → h'.get? c = some o) → (∃ o, h'.get? e = some o ∧ o.cls = .type "StopIteration") → E (.ref e) { s with heap := h' }) :
    wpAny (model P w) A (Builtin.«zip.__next__» ⟨[.ref z], []⟩) Q E s := by
  show wpAny _ _ (field (.ref z) 2 >>= _) _ _ _
  refine wpAny_bind (wpAny_field Z rfl (x := .bool false) rfl ?_)
  show wpAny _ _ (field (.ref z) 3 >>= _) _ _ _
  refine wpAny_bind (wpAny_field Z rfl (x := .ref TI) rfl (wpAny_bind (wpAny_seqItems hTI rfl ?_)))
  show wpAny _ _ (Builtin.SmallTypes.ownedTupleIsFree (.ref z) >>= _) _ _ _
  refine wpAny_bind (wpAny_mono (zipB_busy Z hT) (fun b s' hb => ?_) fun _ _ x => x)
  obtain ⟨rfl, h1, rfl, Z1, kp, sz⟩ := hb
  simp only [Bool.false_eq_true, if_false]
  simp
  have a1 : ItAt k1 h1 i1 l1 n := p1.on fun o q => kp _ o D.i1z q
  have a2 : ItAt k2 h1 i2 l2 n := p2.on fun o q => kp _ o D.i2z q
  have b1 : SqAt k1 h1 l1 xs := q1.on fun o q => kp _ o D.l1z q
  have b2 : SqAt k2 h1 l2 ys := q2.on fun o q => kp _ o D.l2z q
  refine wpAny_bind (wpAny_holding ?_)
  show wpAny _ _ (Builtin.SmallTypes.nextOf (.ref i1) >>= _) _ _ _
  cases hx : xs[n]? with
  | none => exact wpAny_bind (draw_end calm a1 b1 hx fun hb e sb he => fin hb e (fun c o c1 c2 _ q => sb _ _ c2 (kp c o c1 q)) he)
  | some x =>
    have hy : ys[n]? = none := by
      rcases stop with q | q
      · rw [hx] at q; cases q
      · exact q
    refine wpAny_bind (draw_item a1 b1 hx fun hb pb sb => wpAny_pure ?_)
    refine wpAny_bind (wpAny_pure (wpAny_bind ?_))
    refine wpAny_bind (wpAny_holding ?_)
    show wpAny _ _ (Builtin.SmallTypes.nextOf (.ref i2) >>= _) _ _ _
    exact wpAny_bind (draw_end calm (a2.off sb.extBut D.i12.symm) (b2.off sb.extBut D.l2i1) hy fun hc e sc he => fin hc e (fun c o c1 c2 c3 q => sc _ _ c3 (sb.extBut _ _ c2 (kp c o c1 q))) he)
end
/-! list(zip(a, b)) -/
/-- a zip in the midst of filling a list: fresh, or with its last tuple in other hands -/
def ZMid (H : Hp) (h : Heap) (z TI TO i1 i2 : Addr) : Prop := (IsPair h TI (.ref i1) (.ref i2) ∧ ∃ o, h.get? TO = some o) ∧ ((∃ x y, ZAt h z TI TO i1 i2 x y) ∨ ∃ T f ws, ZB h z TI TO T f ∧ H T = some (.tup ws))
section
variable {X : Cx} {K : PySem.W.Frag} {k1 k2 : Bool} {a b z TI TO i1 i2 q : Addr} {xs ys : List V} {A : Around}
theorem alive_of {pins : List (Addr × Obj)} {σ : L2.St} {H : Hp} {s : Shared} {T : Addr} {ws : List V} (I : Inv X pins σ H s) (h : H T = some (.tup ws)) : ∃ o, s.heap.get? T = some o := by
  obtain ⟨_, _, _, o, e, _⟩ := I.hok T _ h
  exact ⟨o, e⟩
/-- what is owed turn by turn -/
structure LzP (K : PySem.W.Frag) (k1 k2 : Bool) (a b : Addr) (xs ys : List V) (P : Nat → List V → Hp → Prop) : Prop where
  sq : ∀ i acc H, P i acc H → SqK K k1 H a xs ∧ SqK K k2 H b ys ∧ acc.length = i
  go : ∀ i acc H, P i acc H → ∀ x y T, xs[i]? = some x → ys[i]? = some y → H T = none → P (i + 1) (acc ++ [.ref T]) (upd H T (.tup [x, y]))
theorem upd_comm {H : Hp} {a b : Addr} {u v : HO} (n : a ≠ b) : upd (upd H a u) b v = upd (upd H b v) a u := by
  funext c
  by_cases h1 : c = a
  · rw [h1, upd_ne n, upd_same, upd_same]
  · by_cases h2 : c = b
    · rw [h2, upd_same, upd_ne n.symm, upd_same]
    · rw [upd_ne h2, upd_ne h1, upd_ne h1, upd_ne h2]
theorem fill_zip {pins : List (Addr × Obj)} {σ : L2.St} {Rs : Result → Shared → Prop} {P : Nat → List V → Hp → Prop} (L : LzP X.K k1 k2 a b xs ys P) (D : ZipApart z TI TO i1 i2 a b) (calm : A.in1.in1.in1.handled = none) (hlen : min xs.length ys.length < sizeLine)
    (done : ∀ acc H s, P (min xs.length ys.length) acc H → H q = none → Inv X pins σ (upd H q (.lst acc)) s → Rs (.ok (.ret .none)) s) :
    ∀ (m i : Nat) (acc : List V) (H : Hp) (s : Shared), i + m = min xs.length ys.length → P i acc H → H q = none → Inv X pins σ (upd H q (.lst acc)) s → (∀ c ∈ [z, TI, TO, i1, i2], FpOk X pins (upd H q (.lst acc)) c) → ZMid (upd H q (.lst acc)) s.heap z TI TO i1 i2 → ItAt k1 s.heap i1 a i → ItAt k2 s.heap i2 b i →
      codeAny (model X.prog X.w) A (.builtin "list.extend.loop" ⟨[.ref q, .ref z, .none], []⟩) Rs s := by
  intro m
  induction m with
  | zero =>
    intro i acc H s hi hP hq I fp zm p1 p2
    refine codeAny_builtin PySem.F.entry_extend_loop ?_
    rw [Around.under_plainId PySem.F.plain_extend_loop _]
    show wpAny _ A.in1 (pyNext (.ref z) >>= _) _ _ s
    obtain ⟨s1, s2, la⟩ := L.sq _ _ _ hP
    obtain ⟨us, ru, ha⟩ := (s1.same (Same.fresh (o := .lst acc) hq)).held I
    obtain ⟨vs, rv, hb⟩ := (s2.same (Same.fresh (o := .lst acc) hq)).held I
    have l1 := ru.length
    have l2 := rv.length
    have stop : us.toArray[i]? = none ∨ vs.toArray[i]? = none := by
      rcases Nat.le_total xs.length ys.length with h | h
      · exact .inl (by simp; omega)
      · exact .inr (by simp; omega)
    have fin : ∀ h', (∀ c o, c ≠ z → c ≠ TO → c ≠ i1 → c ≠ i2 → s.heap.get? c = some o → h'.get? c = some o) → Rs (.ok (.ret .none)) { s with heap := h' } := fun h' kp => by
      have I2 := I.turnedL (t' := s.toks) (h' := h') (ch := [z, TI, TO, i1, i2]) (fun c o hc g => kp c o (fun e => hc (by simp [e])) (fun e => hc (by simp [e])) (fun e => hc (by simp [e])) (fun e => hc (by simp [e])) g) fp
      exact done acc H _ (by rw [← hi]; exact hP) hq I2
    refine wpAny_bind ?_
    obtain ⟨⟨ti, _⟩, ⟨x0, y0, Z⟩ | ⟨T, f, u, Z, hT⟩⟩ := zm
    · exact stop_mix calm D Z p1 p2 ha hb stop fun h' kp => wpAny_pure (fin h' kp)
    · obtain ⟨oT, eT⟩ := alive_of I hT
      have tz : s.TypeIs (.ref z) "zip" := ⟨_, Z, rfl⟩
      unfold pyNext
      refine wpAny_bind (wpAny_attempt (wpAny_callSpecial?_slot (name := Str.ofString "__next__") tz PySem.F.slot_zip_next (wpAny_call_entry PySem.F.slot_zip_next tz PySem.F.entry_zip_next (zipB_end calm D Z ti eT p1 p2 ha hb stop fun h' e kp he => ?_) (PySem.F.args_zip_next_1 _))))
      obtain ⟨o, o1, o2⟩ := he
      exact wpAny_bind (wpAny_isInstance (T := "StopIteration") (b := true) ⟨o, o1, o2⟩ isSubtype_stop (wpAny_pure (wpAny_pure (fin _ fun c o c1 _ c3 c4 g => kp c o c1 c3 c4 g))))
  | succ m ih =>
    intro i acc H s hi hP hq I fp zm p1 p2
    refine codeAny_builtin PySem.F.entry_extend_loop ?_
    rw [Around.under_plainId PySem.F.plain_extend_loop _]
    show wpAny _ A.in1 (pyNext (.ref z) >>= _) _ _ s
    obtain ⟨s1, s2, la⟩ := L.sq _ _ _ hP
    obtain ⟨us, ru, ha⟩ := (s1.same (Same.fresh (o := .lst acc) hq)).held I
    obtain ⟨vs, rv, hb⟩ := (s2.same (Same.fresh (o := .lst acc) hq)).held I
    have hix : i < xs.length := by omega
    have hiy : i < ys.length := by omega
    have ex : xs[i]? = some xs[i] := List.getElem?_eq_getElem hix
    have ey : ys[i]? = some ys[i] := List.getElem?_eq_getElem hiy
    obtain ⟨u, hu, r1⟩ := ru.get ex
    obtain ⟨v, hv, r2⟩ := rv.get ey
    have fr : upd H q (.lst acc) s.heap.objs.size = none := I.hok.fresh (Nat.le_refl _)
    have nq : s.heap.objs.size ≠ q := fun e => by rw [e, upd_same] at fr; cases fr
    have fr0 : H s.heap.objs.size = none := by rw [upd_ne nq] at fr; exact fr
    have fin : ∀ h', (ZMid (upd (upd H q (.lst acc)) s.heap.objs.size (.tup [xs[i], ys[i]])) h' z TI TO i1 i2) → ItAt k1 h' i1 a (i + 1) → ItAt k2 h' i2 b (i + 1) → IsPair h' s.heap.objs.size u v → (∀ c o, c ≠ z → c ≠ TO → c ≠ i1 → c ≠ i2 → s.heap.get? c = some o → h'.get? c = some o) →
        wpAny (model X.prog X.w) A.in1 (updateSeq q (·.push (.ref s.heap.objs.size)) >>= fun _ => again (.builtin "list.extend.loop" ⟨[.ref q, .ref z, .none], []⟩)) (fun fin s' => match fin with | .done f => Rs (.ok f) s' | .again c' => c'.quiet = true ∧ codeAny (model X.prog X.w) A c' Rs s') (fun e s' => Rs (.error e) s') { s with heap := h' } := fun h' zm' p1' p2' hT kp => by
      have new : ObjOk X.prog X.w (upd (upd H q (.lst acc)) s.heap.objs.size (.tup [xs[i], ys[i]])) h' s.heap.objs.size (.tup [xs[i], ys[i]]) := ⟨by show 2 ≤ sizeLine; decide, [u, v], .cons r1 (.cons r2 .nil), ⟨_, hT, rfl, _, rfl⟩⟩
      have I1 := I.turnedNew (t' := s.toks) (h' := h') (ch := [z, TI, TO, i1, i2]) (fun c o hc g => kp c o (fun e => hc (by simp [e])) (fun e => hc (by simp [e])) (fun e => hc (by simp [e])) (fun e => hc (by simp [e])) g) fp (Nat.le_refl _) new
      rw [upd_comm nq.symm] at I1
      obtain ⟨zz, its, kk, r3, hl, e⟩ := I1.lstM upd_same
      have hz : acc.length < sizeLine := by omega
      refine wpAny_bind (wpAny_updateSeq e rfl (wpAny_pure ⟨plainId_quiet PySem.F.plain_extend_loop _, ?_⟩) (by rw [List.size_toArray]; omega) (by show (its.toArray.push _).size ≤ sizeLine + 1; rw [Array.size_push, List.size_toArray]; omega))
      have I2 := I1.lset (its' := its ++ [.ref s.heap.objs.size]) (ys := acc ++ [.ref s.heap.objs.size]) (t' := s.toks) (f := (·.push (.ref s.heap.objs.size))) upd_same e (by simp) (r3.append (.cons (show L2.RelV (.ref s.heap.objs.size) (.ref s.heap.objs.size) from rfl) .nil)) (by rw [List.length_append, List.length_singleton]; omega)
      rw [upd_upd] at I2
      have hq' : upd H s.heap.objs.size (.tup [xs[i], ys[i]]) q = none := by rw [upd_ne nq.symm]; exact hq
      have cq : ∀ c ∈ [z, TI, TO, i1, i2], c ≠ q ∧ c ≠ s.heap.objs.size := fun c hc => by
        refine ⟨fun e => ?_, fun e => ?_⟩
        · have := (fp c hc).1
          rw [e, upd_same] at this
          cases this
        · obtain ⟨o, eo⟩ : ∃ o, s.heap.get? c = some o := by
            have e' : c = z ∨ c = TI ∨ c = TO ∨ c = i1 ∨ c = i2 := by simpa using hc
            rcases e' with e' | e' | e' | e' | e'
            · rw [e']
              rcases zm.2 with ⟨_, _, Z⟩ | ⟨_, _, _, Z, _⟩
              · exact ⟨_, Z.z⟩
              · exact ⟨_, Z⟩
            · rw [e']; exact ⟨_, zm.1.1⟩
            · rw [e']; exact zm.1.2
            · rw [e']; exact p1.obj.imp fun o q => q.1
            · rw [e']; exact p2.obj.imp fun o q => q.1
          rw [e] at eo
          exact absurd (Heap.lt_size eo) (Nat.lt_irrefl _)
      have same : ∀ c, c ≠ q → ∀ o, h'.get? c = some o → (h'.update q (Obj.mapSeq (·.push (.ref s.heap.objs.size)))).get? c = some o := fun c n o g => (Heap.get?_update_other _ _ n.symm).trans g
      refine ih (i + 1) _ _ _ (by omega) (L.go i acc H hP _ _ _ ex ey fr0) hq' I2 (fun c hc => ⟨?_, (fp c hc).2⟩) ?_ (p1'.on fun o g => same _ (cq i1 (by simp)).1 o g) (p2'.on fun o g => same _ (cq i2 (by simp)).1 o g)
      · rw [upd_ne (cq c hc).1, upd_ne (cq c hc).2]
        have := (fp c hc).1
        rw [upd_ne (cq c hc).1] at this
        exact this
      · refine ⟨⟨same _ (cq TI (by simp)).1 _ zm'.1.1, zm'.1.2.imp fun o g => same _ (cq TO (by simp)).1 _ g⟩, ?_⟩
        rcases zm'.2 with ⟨x, y, Z⟩ | ⟨T, f, w, Z, hT'⟩
        · exact .inl ⟨x, y, same _ (cq z (by simp)).1 _ Z.z, same _ (cq TI (by simp)).1 _ Z.ti, same _ (cq TO (by simp)).1 _ Z.to⟩
        · have eT : T ≠ q := fun e => by rw [e, upd_ne nq.symm, upd_same] at hT'; cases hT'
          refine .inr ⟨T, f, w, same _ (cq z (by simp)).1 _ Z, ?_⟩
          rw [upd_ne eT]
          by_cases eT2 : T = s.heap.objs.size
          · rw [eT2, upd_same] at hT' ⊢
            exact hT'
          · rw [upd_ne eT2, upd_ne eT] at hT'
            rw [upd_ne eT2]
            exact hT'
    have hu' : us.toArray[i]? = some u := by simpa using hu
    have hv' : vs.toArray[i]? = some v := by simpa using hv
    refine wpAny_bind ?_
    obtain ⟨⟨ti, oO, eO⟩, ⟨x0, y0, Z⟩ | ⟨T, f, w, Z, hT⟩⟩ := zm
    · refine next_mix D Z p1 p2 ha hb hu' hv' fun h' z' to' q1 q2 tn kp => ?_
      exact fin h' ⟨⟨kp _ _ D.TIz D.TITO D.TIi1 D.TIi2 ti, _, to'⟩, .inr ⟨_, false, _, z', upd_same⟩⟩ q1 q2 tn kp
    · obtain ⟨oT, eT⟩ := alive_of I hT
      have tz : s.TypeIs (.ref z) "zip" := ⟨_, Z, rfl⟩
      unfold pyNext
      refine wpAny_bind (wpAny_attempt (wpAny_callSpecial?_slot (name := Str.ofString "__next__") tz PySem.F.slot_zip_next (wpAny_call_entry PySem.F.slot_zip_next tz PySem.F.entry_zip_next ?_ (PySem.F.args_zip_next_1 _))))
      refine zipB_item D Z ti eT p1 p2 ha hb hu' hv' fun h' z' q1 q2 tn kp => wpAny_pure ?_
      have nT : T ≠ s.heap.objs.size := fun e => by rw [e] at hT; rw [hT] at fr; cases fr
      exact fin h' ⟨⟨kp _ _ D.TIz D.TIi1 D.TIi2 ti, _, kp _ _ D.TOz D.TOi1 D.TOi2 eO⟩, .inr ⟨T, true, w, z', by rw [upd_ne nT]; exact hT⟩⟩ q1 q2 tn fun c o c1 _ c3 c4 g => kp c o c1 c3 c4 g
end
theorem zip_nolen : typeLookup (.type "zip") "__len__" = pure none := by rw [typeLookup_type, builtinLookup_eq_fast]; kernel_rfl
theorem zip_nohint : typeLookup (.type "zip") "__length_hint__" = pure none := by rw [typeLookup_type, builtinLookup_eq_fast]; kernel_rfl
def tLstZip (K : PySem.W.Frag) (ta : TA) : TE := fun σ H Q => ta σ H fun vs H1 => ∃ k1 k2 a b xs ys, vs = [.ref a, .ref b] ∧ SqK K k1 H1 a xs ∧ SqK K k2 H1 b ys ∧ (k1 = true ∨ k2 = false) ∧ min xs.length ys.length < sizeLine ∧
  ∃ P : Nat → List V → Hp → Prop, LzP K k1 k2 a b xs ys P ∧ P 0 [] H1 ∧ ∀ acc H' q, P (min xs.length ys.length) acc H' → H' q = none → Q (.ref q) (upd H' q (.lst acc))
section
variable {X : Cx} {k1 k2 : Bool} {a b z TI TO i1 i2 : Addr} {xs ys : List V}
theorem call_listZ (calm : X.calm = true) {pins : List (Addr × Obj)} {σ : L2.St} {H : Hp} {s : Shared} {Q : VK} {P : Nat → List V → Hp → Prop} (I : Inv X pins σ H s) (L : LzP X.K k1 k2 a b xs ys P) (D : ZipApart z TI TO i1 i2 a b) (Z : ZAt s.heap z TI TO i1 i2 .none .none) (p1 : ItAt k1 s.heap i1 a 0) (p2 : ItAt k2 s.heap i2 b 0)
    (fp : ∀ c ∈ [z, TI, TO, i1, i2], FpOk X pins H c) (hlen : min xs.length ys.length < sizeLine) (h0 : P 0 [] H) (done : ∀ acc H' q, P (min xs.length ys.length) acc H' → H' q = none → Q (.ref q) (upd H' q (.lst acc))) : wpAny (model X.prog X.w) X.A (call (.type "list") [.ref z]) (EP X pins σ Q) X.xe s := by
  refine callType_codes (Q₁ := fun obj s₁ => obj = .ref s.heap.objs.size ∧ s₁ = { s with heap := s.heap.push { cls := .type "list", data := .seq #[] } }) PySem.F.called_list (PySem.F.typeCall_list_1 _) PySem.F.entry_list_init
    (code_list_new _ ⟨rfl, rfl⟩) ?_
  rintro obj s₁ ⟨rfl, rfl⟩
  have atq : (s.heap.push { cls := .type "list", data := .seq #[] }).get? s.heap.objs.size = some { cls := .type "list", data := .seq #[] } := Heap.get?_push_size _ rfl
  refine ⟨⟨_, atq, rfl⟩, PySem.F.args_list_init_2 _ _, ?_⟩
  have fr : H s.heap.objs.size = none := I.hok.fresh (Nat.le_refl _)
  have I1 : Inv X pins σ (upd H s.heap.objs.size (.lst [])) { s with heap := s.heap.push { cls := .type "list", data := .seq #[] } } := I.lnew (its := []) (t' := s.toks) .nil (Nat.zero_le _)
  have ltz : ∀ c ∈ [z, TI, TO, i1, i2], c < s.heap.objs.size := fun c hc => by
    have e : c = z ∨ c = TI ∨ c = TO ∨ c = i1 ∨ c = i2 := by simpa using hc
    rcases e with e | e | e | e | e <;> rw [e]
    · exact Heap.lt_size Z.z
    · exact Heap.lt_size Z.ti
    · exact Heap.lt_size Z.to
    · exact p1.lt
    · exact p2.lt
  show wpAny _ _ (do let old ← Builtin.List.listItems (.ref s.heap.objs.size); Builtin.List.listUpdate (.ref s.heap.objs.size) (fun _ => #[]); letGo old.toList.reverse; Builtin.List.listExtendWith (.ref s.heap.objs.size) (.ref z) .none) _ _ _
  refine wpAny_bind ?_
  unfold Builtin.List.listItems
  refine wpAny_bind (wpAny_seqItems atq rfl (wpAny_pure ?_))
  show wpAny _ _ (updateSeq s.heap.objs.size (fun _ => #[]) >>= fun _ => letGo (#[] : Array Value).toList.reverse >>= fun _ => Builtin.List.listExtendWith (.ref s.heap.objs.size) (.ref z) .none) _ _ _
  refine wpAny_bind (wpAny_updateSeq atq rfl ?_)
  have I2 := I1.lset (f := fun _ => #[]) (its := []) (its' := []) (ys := []) (t' := s.toks) upd_same atq rfl .nil (Nat.zero_le _)
  rw [upd_upd] at I2
  refine wpAny_bind (wpAny_letGo ?_)
  have on1 : ∀ c, c < s.heap.objs.size → ∀ o, s.heap.get? c = some o → ((s.heap.push { cls := .type "list", data := .seq #[] }).update s.heap.objs.size (Obj.mapSeq fun _ => #[])).get? c = some o := fun c lt o g => (Heap.get?_update_other _ _ (Nat.ne_of_gt lt)).trans (Heap.get?_push_of_some _ g)
  generalize (s.heap.push { cls := .type "list", data := .seq #[] }).update s.heap.objs.size (Obj.mapSeq fun _ => #[]) = hh at I2 on1
  generalize s.heap.objs.size = q at *
  have nqz : q ≠ z := Nat.ne_of_gt (ltz z (by simp))
  have Z2 : IsZip hh z TI TO .none := on1 _ (ltz z (by simp)) _ Z.z
  have tz : Shared.TypeIs { s with heap := hh } (.ref z) "zip" := ⟨_, Z2, rfl⟩
  unfold Builtin.List.listExtendWith
  refine wpAny_bind (wpAny_typeOf tz ?_)
  have t1 : Builtin.List.listSameRef (.ref q) (.ref z) = false := by simp [Builtin.List.listSameRef, nqz]
  have t2 : (Value.type "zip" == Value.type "list") = false := by decide
  have t3 : (Value.type "zip" == Value.type "tuple") = false := by decide
  simp only [t1, t2, t3, Bool.or_false, Bool.false_eq_true, if_false]
  refine wpAny_bind (wpAny_pyIter_zip Z2 ?_)
  refine wpAny_bind (wpAny_holding ?_)
  unfold Builtin.List.listLengthHint
  refine wpAny_bind (wpAny_specialOf tz zip_nolen ?_)
  refine PySem.W.KFB.if_not rfl (PySem.W.KFB.if_not rfl ?_)
  refine wpAny_bind (wpAny_specialOf tz zip_nohint (wpAny_pure ?_))
  have go : ∀ h2, Inv X pins σ (upd H q (.lst [])) { s with heap := h2 } → (∀ c, c < q → ∀ o, s.heap.get? c = some o → h2.get? c = some o) → codeAny (model X.prog X.w) X.A.in1 (.builtin "list.extend.loop" ⟨[.ref q, .ref z, .none], []⟩) (wants (fun r s₂ => r = .none ∧ EP X pins σ Q (.ref q) s₂) X.xe) { s with heap := h2 } := fun h2 I5 on2 => by
    refine fill_zip (q := q) (A := X.A.in1) (Rs := wants (fun r s₂ => r = .none ∧ EP X pins σ Q (.ref q) s₂) X.xe) L D (I.ok.hd calm) hlen (fun acc H' s3 hP hq I6 => ⟨rfl, .ref q, _, I6, rfl, done acc H' q hP hq⟩) (min xs.length ys.length) 0 [] H _ (by omega) h0 fr I5 (fun c hc => ⟨?_, (fp c hc).2⟩) ⟨⟨on2 _ (ltz TI (by simp)) _ Z.ti, _, on2 _ (ltz TO (by simp)) _ Z.to⟩, .inl ⟨.none, .none, on2 _ (ltz z (by simp)) _ Z.z, on2 _ (ltz TI (by simp)) _ Z.ti, on2 _ (ltz TO (by simp)) _ Z.to⟩⟩ (p1.on fun o g => on2 _ (ltz i1 (by simp)) o g) (p2.on fun o g => on2 _ (ltz i2 (by simp)) o g)
    rw [upd_ne (Nat.ne_of_lt (ltz c hc))]
    exact (fp c hc).1
  refine wpAny_ite_split (fun _ => ?_) (fun _ => wpAny_pure ⟨plainId_quiet PySem.F.plain_extend_loop _, go hh I2 on1⟩)
  refine wpAny_bind (wpAny_rule (wpAny_bind ?_))
  show wpAny _ _ (updateSeq q (·.push .none) >>= fun _ => updateSeq q (·.pop)) _ _ _
  obtain ⟨z3, its, kk, r3, hl3, e3⟩ := I2.lstM upd_same
  cases r3
  refine wpAny_bind (wpAny_updateSeq e3 rfl ?_)
  have I5 := I2.lset (f := (·.push Value.none)) (its' := [Value.none]) (ys := [.non]) (t' := s.toks) upd_same e3 (by simp) (.cons rfl .nil) (by rw [List.length_singleton, sizeLine_eq]; decide)
  obtain ⟨z4, its4, k4, r4, hl4, e4⟩ := I5.lstM upd_same
  obtain ⟨u4, rfl, ru4⟩ := r4.one
  refine wpAny_updateSeq e4 rfl ?_ (by show 1 ≤ sizeLine; rw [sizeLine_eq]; decide) (by show 0 ≤ sizeLine + 1; exact Nat.zero_le _)
  have I6 := I5.lset (f := (·.pop)) (its := [u4]) (its' := []) (ys := []) (t' := s.toks) upd_same e4 (by rfl) .nil (Nat.zero_le _)
  rw [upd_upd, upd_upd] at I6
  refine wpAny_pure ⟨plainId_quiet PySem.F.plain_extend_loop _, go _ I6 fun c lt o g => ?_⟩
  exact (Heap.get?_update_other _ _ (Nat.ne_of_gt lt)).trans ((Heap.get?_update_other _ _ (Nat.ne_of_gt lt)).trans (on1 c lt o g))
variable {K : PySem.W.Frag} {e e2 : Expr} {ta : TA} {p p2 pos pos2 : Pos}
theorem pe_listZip (hK : X.K = K) (calm : X.calm = true) (hg : Gl X "list") (hm : X.mg "list" = none) (hv : bootBuiltins "list" = some (.type "list")) (hgz : Gl X "zip") (hmz : X.mg "zip" = none) (ha : PA X [e, e2] ta)
    (hs : starEach [.Call (.Name "zip" p2) [e, e2] [] pos2] X.env = (false, eval (.Call (.Name "zip" p2) [e, e2] [] pos2) X.env) :: starEach [] X.env := by rfl)
    (hs2 : starEach [e, e2] X.env = (false, eval e X.env) :: starEach [e2] X.env := by rfl) (hpl : (backTo pos2 (starEach [e2] X.env)).any (·.1) = false := by rfl) :
    PE X (.Call (.Name "list" p) [.Call (.Name "zip" p2) [e, e2] [] pos2] [] pos) (tLstZip K ta) := by
  subst hK
  refine ⟨fun pins s σ H Q I h => ?_⟩
  refine wpAny_Call_Name_kw (ld_blt I hg hm hv ?_)
  refine PyProof.Rows.callWith_type1 ?_ hs rfl
  rw [hs]
  show wpAny _ _ (spliced ((false, eval (.Call (.Name "zip" p2) [e, e2] [] pos2) X.env) :: backTo pos (starEach [] X.env))) _ _ s
  refine Calls.spliced_cons ?_
  refine Call_ (ld_blt I hgz hmz PyProof.Rows.boot_zip (PyProof.Rows.callWith_type1 (thn (ha.run pos2 pins s σ H _ I h) fun us s1 ⟨vs, H1, I1, r1, q1⟩ => ?_) hs2 hpl))
  obtain ⟨k1, k2, a, b, xs, ys, ev, qa, qb, kk', hlen, P, L, h0, done⟩ := q1
  subst ev
  cases r1 with
  | cons r rr =>
    cases rr with
    | cons r' rr =>
      cases rr
      cases r
      cases r'
      obtain ⟨us, _, h1⟩ := qa.held I1
      obtain ⟨vs, _, h2⟩ := qb.held I1
      refine call_mix h1 h2 kk' fun h' ⟨Z, p1, p2, keep⟩ => Calls.spliced_nil ?_
      have I2 : Inv X pins σ H1 { s1 with heap := h' } := I1.kept (t' := s1.toks) keep
      refine call_listZ calm I2 L (PySem.W.ktu_apart s1.heap.objs.size a b h1.lt h2.lt) Z p1 p2 (fun c hcm => ?_) hlen h0 done
      have le : s1.heap.objs.size ≤ c := by
        have q : c = s1.heap.objs.size + 4 ∨ c = s1.heap.objs.size + 2 ∨ c = s1.heap.objs.size + 3 ∨ c = s1.heap.objs.size ∨ c = s1.heap.objs.size + 1 := by simpa using hcm
        rcases q with q | q | q | q | q <;> rw [q] <;> first | exact Nat.le_refl _ | exact Nat.le_add_right _ _
      exact I1.fpOk le (I1.hok.fresh le)
end

/-! ### tuples known to the object: tuple(x), x.count(y) -/
def rTupleX (K : PySem.W.Frag) : List V → Hp → VK → Prop := fun xs H Q => ∃ p ys, xs = [.ref p] ∧ ((SqL K H p ys ∧ ∀ l o, H l = none → o.dict = none → Q (.ref l) (upd H l (.frz o (.tup ys)))) ∨ ((∃ o, H p = some (.frz o (.tup ys)) ∧ o.dict = none) ∧ Q (.ref p) H))
theorem cr_tupleX {X : Cx} {K : PySem.W.Frag} (hK : X.K = K) : CallR X (.type "tuple") (rTupleX K) := by
  subst hK
  intro pins s σ H xs us Q I r h
  obtain ⟨p, ys, rfl, h⟩ := h
  obtain ⟨u, rfl, rx⟩ := vals1 r
  cases rx
  rcases h with ⟨sq, q⟩ | ⟨⟨o, ho, hd⟩, q⟩
  · obtain ⟨vs, rv, pl, z⟩ := I.list sq
    have len := rv.length
    refine call_tuple_list pl.isList (fun h1 kp => ?_) (by simp only [List.size_toArray] <;> omega)
    have J := I.kept (t' := s.toks) kp
    have ob : ObjOk X.prog X.w (upd H h1.objs.size (.frz { cls := .type "tuple", data := .seq vs.toArray } (.tup ys))) (h1.push { cls := .type "tuple", data := .seq vs.toArray }) h1.objs.size (.frz { cls := .type "tuple", data := .seq vs.toArray } (.tup ys)) := ⟨Heap.get?_push_size _ rfl, z, vs, rv, IsTup.new _ _⟩
    exact ⟨.ref h1.objs.size, _, J.laid (t' := s.toks) (fun _ _ e => Heap.get?_push_of_some _ e) (Nat.le_refl _) ob, rfl, q _ _ (J.hok.fresh (Nat.le_refl _)) rfl⟩
  · obtain ⟨vs, rv, pl, z⟩ := I.tuple (show SqT X.K H p ys from .inl (.inr ⟨o, ho⟩))
    exact call_tuple_same pl ⟨.ref p, H, I, rfl, q⟩
def tupXV (x : V) (H : Hp) : Prop := ∃ p o xs, x = .ref p ∧ H p = some (.frz o (.tup xs)) ∧ o.dict = none
def tBMX (r : V → List V → Hp → VK → Prop) (to : TE) (t : TA) : TE := fun σ H Q => to σ H fun x H1 => tupXV x H1 ∧ t σ H1 fun xs H2 => r x xs H2 Q
section
variable {X : Cx} {o e : Expr} {es : List Expr} {to : TE} {t : TA} {name : Str} {apos cpos : Pos} {id : String} {r : V → List V → Hp → VK → Prop}
theorem pe_bmX (sl : Slot "tuple" name id) (ht : typeOf (.builtin id) = pure (.type "method_descriptor")) (hm : MtR X id r) (ho : PE X o to) (ha : PA X (e :: es) t)
    (hb : attributeBase o name X.env (eval o X.env) = eval o X.env := by rfl)
    (hf : ((backTo cpos (starEach (e :: es) X.env)).all (fun x => !x.1) && (backToKw cpos (keywordEach [] X.env)).all (fun x => x.1.isSome) && decide ((e :: es).length + ([] : List Keyword).length + (if ([] : List Keyword).isEmpty then 0 else 1) < 30)) = true := by rfl)
    (hl : (apos.endLine == cpos.line) = true := by rfl) (hs : starEach (e :: es) X.env = (false, eval e X.env) :: starEach es X.env := by rfl) (hp : (backTo cpos (starEach es X.env)).any (·.1) = false := by rfl) :
    PE X (.Call (.Attribute o name apos) (e :: es) [] cpos) (tBMX r to t) := ⟨fun pins s σ H Q I h =>
  wpAny_Call_method_late hb hf hl rfl (thn (ho.run pins s σ H _ I h) fun v s1 ⟨x, H1, I1, r1, tv, q1⟩ => by
    obtain ⟨p, ob, xs, rfl, hob, hd⟩ := tv
    cases r1
    obtain ⟨g1, _, its, rv, ob2, g2, g3, n, g4⟩ := I1.hok p _ hob
    have eo : ob = ob2 := Option.some.inj (g1.symm.trans g2)
    subst eo
    have hA := ha.run cpos pins s1 σ H1 _ I1 q1
    rw [hs] at hA ⊢
    exact ⟨"tuple", id, PySem.F.plainAttrs_tuple, sl, ht, ⟨ob, g1, g3⟩, fun a z => by cases z; exact ⟨ob, g1, hd⟩,
      Calls.callWith_builtin (by show (false || (backTo cpos (starEach es X.env)).any (·.1)) = false; rw [hp] <;> rfl) (Calls.evalArgs_plain (thn hA fun us s2 ⟨vs, H2, I2, r2, q2⟩ => hm pins s2 σ H2 (.ref p) vs (.ref p) us Q I2 rfl r2 q2))⟩)⟩
end

/-! ### dicts whose keys are tuples of integers -/
/-- an entry: its key, where the key stands, what it holds -/
abbrev EntI := List Int × Addr × V
def hashTI (k : List Int) : Int := reduceHash (Builtin.Tuple.tupleHashOf (k.map hashInt))
def rawI (x : List Int × Addr × Value) : DictEntry := ⟨hashTI x.1, .ref x.2.1, x.2.2⟩
abbrev TwoI : List EntI → List (List Int × Addr × Value) → Prop := Paired fun p q => (p.1 = q.1 ∧ p.2.1 = q.2.1) ∧ RelV p.2.2 q.2.2
def isDI (a : Addr) (es : List EntI) (h : Heap) : Prop := es.length ≤ sizeLine ∧ (a == sysModules) = false ∧ ∃ xs, TwoI es xs ∧ ∃ o ds ep, h.get? a = some o ∧ o.ExactDict ∧ o.data = .dict ds ep ∧ ds.toList = xs.map rawI ∧ (xs.map (·.1)).Nodup
def DicI (a : Addr) (es : List EntI) : HO := .ext (isDI a es)
section
variable {P : Program} {w : World} {H : Hp} {h h' : Heap} {a : Addr} {es : List EntI}
theorem isDI_stay (x : isDI a es h) (k : ∀ o, h.get? a = some o → h'.get? a = some o) : isDI a es h' := by
  obtain ⟨z, y, xs, t, o, ds, ep, e, r⟩ := x
  exact ⟨z, y, xs, t, o, ds, ep, k o e, r⟩
theorem dicI_ok (x : isDI a es h) : ObjOk P w H h a (DicI a es) := by
  have y := x
  obtain ⟨_, _, _, _, o, _, _, e, _⟩ := y
  exact ⟨x, ⟨o, e⟩, fun _ _ p q => isDI_stay p q⟩
/-- the keys stand where they are said to -/
def KeysI (K : PySem.W.Frag) (H : Hp) (es : List EntI) : Prop := ∀ e ∈ es, SqT K H e.2.1 (e.1.map V.int)
end
section
variable {X : Cx} {pins : List (Addr × Obj)} {σ : L2.St} {H : Hp} {s : Shared} {a b : Addr} {es : List EntI} {k : List Int} {A : Around} {E : Value → Shared → Prop}
theorem ints_are : ∀ {ks : List Int} {us : List Value}, Vals (ks.map V.int) us → ItemsAre (PySem.intKind X.prog X.w) ks us
  | [], _, r => by cases r; exact .nil
  | k :: ks, _, r => by
    rw [List.map_cons] at r
    cases r with
    | cons h t =>
      obtain ⟨tk, rfl⟩ := h
      exact .cons (intKind_is _ _ _ _) (ints_are t)
theorem keyI_is (I : Inv X pins σ H s) (h : SqT X.K H b (k.map V.int)) : (tupleKind (PySem.intKind X.prog X.w)).is s.heap k b := by
  obtain ⟨its, r, ⟨o, h1, h2, n, h3⟩, _⟩ := I.tuple h
  exact ⟨o, its.toArray, n, h1, h2, h3, by simpa using ints_are (X := X) r⟩
theorem twoI_mem : ∀ {es : List EntI} {xs : List (List Int × Addr × Value)}, TwoI es xs → ∀ x ∈ xs, ∃ e ∈ es, e.1 = x.1 ∧ e.2.1 = x.2.1
  | _, _, .nil, x, h => nomatch h
  | _, _, .cons r t, x, h => by
    rcases List.mem_cons.mp h with rfl | h
    · exact ⟨_, List.mem_cons_self, r.1⟩
    · obtain ⟨e, h1, h2⟩ := twoI_mem t x h
      exact ⟨e, List.mem_cons_of_mem _ h1, h2⟩
theorem twoI_keys : ∀ {es : List EntI} {xs : List (List Int × Addr × Value)}, TwoI es xs → xs.map (·.1) = es.map (·.1)
  | _, _, .nil => rfl
  | _, _, .cons r t => by rw [List.map_cons, List.map_cons, twoI_keys t, r.1.1]
theorem raw_entI : (rawI : List Int × Addr × Value → DictEntry) = entryOfKey (tupleKind (PySem.intKind X.prog X.w)) := rfl
theorem dicI_of (I : Inv X pins σ H s) (e : H a = some (DicI a es)) (ks : KeysI X.K H es) : es.length ≤ sizeLine ∧ (a == sysModules) = false ∧ ∃ xs, TwoI es xs ∧ s.heap.DictOfH (tupleKind (PySem.intKind X.prog X.w)) a xs := by
  obtain ⟨⟨z, y, xs, t, o, ds, ep, h1, h2, h3, h4, h5⟩, _⟩ := I.hok a _ e
  refine ⟨z, y, xs, t, o, ds, ep, h1, h2, h3, by rw [h4, raw_entI (X := X)], fun x hx => ?_, h5⟩
  obtain ⟨p, q1, q2, q3⟩ := twoI_mem t x hx
  rw [← q2, ← q3]
  exact keyI_is I (ks p q1)
def hasI (es : List EntI) (k : List Int) : Bool := decide (k ∈ es.map (·.1))
theorem has_atI {xs : List (List Int × Addr × Value)} : (atKey xs k).isSome = decide (k ∈ xs.map (·.1)) := by
  unfold atKey
  rw [Option.isSome_map]
  induction xs with
  | nil => simp
  | cons x xs ih =>
    by_cases q : x.1 = k
    · rw [List.find?_cons_of_pos (by simpa using q)]
      simp [q]
    · rw [List.find?_cons_of_neg (by simpa using q), ih]
      have q2 : ¬ k = x.1 := fun z => q z.symm
      simp [q2]
/-- x in d, x not in d -/
def rInI (K : PySem.W.Frag) (neg : Bool) : R2 := fun x y H Q => ∃ b k a es, x = .ref b ∧ SqT K H b (k.map V.int) ∧ y = .ref a ∧ H a = some (DicI a es) ∧ KeysI K H es ∧ Q (.bl (if neg = true then !hasI es k else hasI es k)) H
theorem op_inI (hu : X.A.units + 1 < cLine) : OpR X (compareOp .In) (rInI X.K false) := by
  intro pins s σ H x y v u Q I rx ry h
  obtain ⟨b, k, a, es, rfl, hb, rfl, ha, ks, q⟩ := h
  cases rx
  cases ry
  obtain ⟨z, hd, xs, t, dd⟩ := dicI_of I ha ks
  refine wpAny_in_heap (tupleKind_room_in1 hu) (keyI_is I hb) hd dd ?_
  rw [has_atI, twoI_keys t]
  exact ⟨.bl (hasI es k), H, I.tok _, rfl, q⟩
theorem op_notInI (hu : X.A.units + 1 < cLine) : OpR X (compareOp .NotIn) (rInI X.K true) := by
  intro pins s σ H x y v u Q I rx ry h
  obtain ⟨b, k, a, es, rfl, hb, rfl, ha, ks, q⟩ := h
  cases rx
  cases ry
  obtain ⟨z, hd, xs, t, dd⟩ := dicI_of I ha ks
  refine wpAny_notIn_heap (tupleKind_room_in1 hu) (keyI_is I hb) hd dd ?_
  rw [has_atI, twoI_keys t]
  exact ⟨.bl (!hasI es k), H, I.tok _, rfl, q⟩
/-- what stands at a key -/
def atI2 (es : List EntI) (k : List Int) : Option V := (es.find? fun e => decide (e.1 = k)).map (·.2.2)
def putI2 (k : List Int) (v : V) (e : EntI) : EntI := if e.1 = k then (e.1, e.2.1, v) else e
def stoI (es : List EntI) (k : List Int) (b : Addr) (v : V) : List EntI := if hasI es k = true then es.map (putI2 k v) else es ++ [(k, b, v)]
def wthI (es : List EntI) (k : List Int) : List EntI := es.filter fun e => decide (e.1 ≠ k)
theorem twoI_at : ∀ {es : List EntI} {xs : List (List Int × Addr × Value)}, TwoI es xs → ∀ v, atI2 es k = some v → ∃ p, atKey xs k = some p ∧ RelV v p.2
  | _, _, .nil, v, h => by simp [atI2] at h
  | e :: es, x :: xs, .cons r t, v, h => by
    unfold atI2 at h
    unfold atKey
    by_cases q : e.1 = k
    · rw [List.find?_cons_of_pos (by simpa using q)] at h
      rw [List.find?_cons_of_pos (by rw [← r.1.1]; simpa using q)]
      cases h
      exact ⟨_, rfl, r.2⟩
    · rw [List.find?_cons_of_neg (by simpa using q)] at h
      rw [List.find?_cons_of_neg (by rw [← r.1.1]; simpa using q)]
      exact twoI_at t v h
theorem twoI_put {v : V} {u : Value} (rv : RelV v u) : ∀ {es : List EntI} {xs : List (List Int × Addr × Value)}, TwoI es xs → TwoI (es.map (putI2 k v)) (xs.map (putAt k u))
  | _, _, .nil => .nil
  | e :: es, x :: xs, .cons r t => by
    rw [List.map_cons, List.map_cons]
    refine .cons ?_ (twoI_put rv t)
    unfold putI2 putAt
    by_cases q : e.1 = k
    · rw [if_pos q, if_pos (by rw [← r.1.1]; exact q)]
      exact ⟨r.1, rv⟩
    · rw [if_neg q, if_neg (by rw [← r.1.1]; exact q)]
      exact r
theorem twoI_wth : ∀ {es : List EntI} {xs : List (List Int × Addr × Value)}, TwoI es xs → TwoI (wthI es k) (withoutH xs k)
  | _, _, .nil => .nil
  | e :: es, x :: xs, .cons r t => by
    unfold wthI withoutH
    by_cases q : e.1 = k
    · rw [List.filter_cons_of_neg (by simpa using q), List.filter_cons_of_neg (by rw [← r.1.1]; simpa using q)]
      exact twoI_wth t
    · rw [List.filter_cons_of_pos (by simpa using q), List.filter_cons_of_pos (by rw [← r.1.1]; simpa using q)]
      exact .cons r (twoI_wth t)
/-- d[k], k there -/
def rIxI (K : PySem.W.Frag) : R2 := fun x y H Q => ∃ a b k es v, x = .ref a ∧ y = .ref b ∧ SqT K H b (k.map V.int) ∧ H a = some (DicI a es) ∧ KeysI K H es ∧ atI2 es k = some v ∧ Q v H
theorem ix_I (hu : X.A.units + 1 < cLine) {pins : List (Addr × Obj)} {σ : L2.St} {H : Hp} {s : Shared} {x y : V} {v u : Value} {Q : V → Hp → Prop} (I : Inv X pins σ H s) (rx : RelV x v) (ry : RelV y u) (h : rIxI X.K x y H Q) :
    wpAny (model X.prog X.w) X.A (getItem v u) (fun r s1 => ∃ z H1, Inv X pins σ H1 s1 ∧ RelV z r ∧ Q z H1) (fun _ _ => False) s := by
  obtain ⟨a, b, k, es, z, rfl, rfl, hb, ha, ks, hz, q⟩ := h
  cases rx
  cases ry
  obtain ⟨_, hd, xs, t, dd⟩ := dicI_of I ha ks
  obtain ⟨p, hp, rp⟩ := twoI_at t z hz
  exact wpAny_getItem_heap (tupleKind_room_in1 hu) (keyI_is I hb) dd hp ⟨z, H, I.tok _, rp, q⟩
/-- d[k] = v -/
def rSetI (K : PySem.W.Frag) : V → V → V → Hp → (Hp → Prop) → Prop := fun o i v H Q => ∃ a b k es, o = .ref a ∧ i = .ref b ∧ SqT K H b (k.map V.int) ∧ H a = some (DicI a es) ∧ KeysI K H es ∧ es.length < sizeLine ∧ Q (upd H a (DicI a (stoI es k b v)))
theorem stoI_len (es : List EntI) (k : List Int) (b : Addr) (v : V) : (stoI es k b v).length ≤ es.length + 1 := by
  unfold stoI
  split
  · rw [List.length_map]; omega
  · rw [List.length_append]; exact Nat.le_refl _
theorem set_dicI (hu : X.A.units + 1 < cLine) : PSet X (rSetI X.K) := by
  intro pins s σ H o i v ov iv u Q I ro ri rv h
  obtain ⟨a, b, k, es, rfl, rfl, hb, ha, ks, hl, q⟩ := h
  cases ro
  cases ri
  obtain ⟨z, hd, xs, t, dd⟩ := dicI_of I ha ks
  have lx : xs.length = es.length := (Paired.length t).symm
  refine wpAny_setItem_heap (hsz := by rw [lx]; exact z) (tupleKind_room_in1 hu) (keyI_is I hb) dd fun h' dd' hs => ⟨_, d_write I (by rw [ha]; exact True.intro) hs ?_ ?_, q⟩
  · obtain ⟨ob, _, _, hq, _⟩ := dd'
    exact ⟨ob, hq⟩
  · refine dicI_ok ?_
    have es' : TwoI (stoI es k b v) (storedH xs k b u) := by
      unfold storedH stoI
      rw [has_atI, twoI_keys t]
      show TwoI (if decide (k ∈ es.map (·.1)) = true then _ else _) _
      split
      · exact twoI_put rv t
      · exact Paired.snoc t ⟨⟨rfl, rfl⟩, rv⟩
    obtain ⟨ob, ds, ep, q1, q2, q3, q4, _, q5⟩ := dd'
    exact ⟨Nat.le_trans (stoI_len es k b v) (by omega), hd, _, es', ob, ds, ep, q1, q2, q3, by rw [q4, raw_entI (X := X)], q5⟩
/-- del d[k], k there -/
def rDelI (K : PySem.W.Frag) : V → V → Hp → (Hp → Prop) → Prop := fun o i H Q => ∃ a b k es, o = .ref a ∧ i = .ref b ∧ SqT K H b (k.map V.int) ∧ H a = some (DicI a es) ∧ KeysI K H es ∧ hasI es k = true ∧ Q (upd H a (DicI a (wthI es k)))
theorem del_dicI (hu : X.A.units + 1 < cLine) {pins : List (Addr × Obj)} {σ : L2.St} {H : Hp} {s : Shared} {o i : V} {ov iv : Value} {Q : Hp → Prop} (I : Inv X pins σ H s) (ro : RelV o ov) (ri : RelV i iv) (h : rDelI X.K o i H Q) :
    wpAny (model X.prog X.w) X.A (delItem ov iv) (fun _ s1 => ∃ H1, Inv X pins σ H1 s1 ∧ Q H1) (fun _ _ => False) s := by
  obtain ⟨a, b, k, es, rfl, rfl, hb, ha, ks, hk, q⟩ := h
  cases ro
  cases ri
  obtain ⟨z, hd, xs, t, dd⟩ := dicI_of I ha ks
  have lx : xs.length = es.length := (Paired.length t).symm
  have some_ : (atKey xs k).isSome = true := by rw [has_atI, twoI_keys t]; exact hk
  obtain ⟨p, hp⟩ := Option.isSome_iff_exists.mp some_
  refine wpAny_delItem_heap (hsz := by rw [lx]; exact z) (tupleKind_room_in1 hu) (keyI_is I hb) hd dd hp fun h' dd' hs => ⟨_, d_write I (by rw [ha]; exact True.intro) hs ?_ ?_, q⟩
  · obtain ⟨ob, _, _, hq, _⟩ := dd'
    exact ⟨ob, hq⟩
  · refine dicI_ok ?_
    obtain ⟨ob, ds, ep, q1, q2, q3, q4, _, q5⟩ := dd'
    exact ⟨Nat.le_trans (List.length_filter_le _ _) z, hd, _, twoI_wth t, ob, ds, ep, q1, q2, q3, by rw [q4, raw_entI (X := X)], q5⟩
/-- {} -/
def tDNewI : TE := fun _ H Q => ∀ p, H p = none → Q (.ref p) (upd H p (DicI p []))
theorem pe_dnewI {pos : Pos} : PE X (.Dict [] [] pos) tDNewI := ⟨fun pins s σ H Q I h => by
  have fr : H s.heap.objs.size = none := I.hok.fresh (Nat.le_refl _)
  have big : (s.heap.objs.size == sysModules) = false := beq_eq_false_iff_ne.mpr fun z => absurd I.big (by rw [← z]; exact Nat.lt_irrefl _)
  refine wpAny_Dict_empty ⟨.ref s.heap.objs.size, _, I.laid (a := s.heap.objs.size) (o := DicI s.heap.objs.size []) (t' := s.toks) (fun _ _ q => Heap.get?_push_of_some _ q) (Nat.le_refl _) (dicI_ok ?_), rfl, h _ fr⟩
  exact ⟨Nat.zero_le _, big, [], .nil, _, #[], 0, Heap.get?_push_size _ rfl, ⟨rfl, rfl, rfl⟩, rfl, rfl, List.nodup_nil⟩⟩
end

/-! ### d.get(k), d.pop(k), len(d) of such dicts -/
section
variable {X : Cx}
def rGetI (K : PySem.W.Frag) : V → List V → Hp → VK → Prop := fun x xs H Q => ∃ a b k es, x = .ref a ∧ xs = [.ref b] ∧ SqT K H b (k.map V.int) ∧ H a = some (DicI a es) ∧ KeysI K H es ∧ Q ((atI2 es k).getD .non) H
theorem twoI_none {k : List Int} : ∀ {es : List EntI} {xs : List (List Int × Addr × Value)}, TwoI es xs → atI2 es k = none → atKey xs k = none
  | _, _, .nil, _ => rfl
  | e :: es, x :: xs, .cons r t, h => by
    unfold atI2 at h
    unfold atKey
    by_cases q : e.1 = k
    · rw [List.find?_cons_of_pos (by simpa using q)] at h
      cases h
    · rw [List.find?_cons_of_neg (by simpa using q)] at h
      rw [List.find?_cons_of_neg (by rw [← r.1.1]; simpa using q)]
      exact twoI_none t h
theorem mt_getI {K : PySem.W.Frag} (hK : X.K = K) (hu : X.A.units + 1 < cLine) : MtR X "dict.get" (rGetI K) := by
  subst hK
  intro pins s σ H x xs v us Q I rx rxs h
  obtain ⟨a, b, k, es, rfl, rfl, hb, ha, ks, q⟩ := h
  cases rx
  cases rxs with
  | cons r1 r2 =>
    cases r2
    cases r1
    obtain ⟨z, hd, xs', t, dd⟩ := dicI_of I ha ks
    refine call_meetsIn PySem.F.slot_dict_get dd.typeIs PySem.F.entry_dict_get (PySem.F.args_dict_get_2 _ _) (meetsH_dict_get (tupleKind (PySem.intKind X.prog X.w)) a b hd) ⟨tupleKind_room_in1 hu, k, xs', keyI_is I hb, dd, ?_⟩
    show EP X pins σ Q _ _
    refine ⟨_, H, I.tok _, ?_, q⟩
    cases e : atI2 es k with
    | none =>
      rw [twoI_none t e]
      rfl
    | some v0 =>
      obtain ⟨p, hp, rp⟩ := twoI_at t v0 e
      rw [hp]
      exact rp
/-- d.pop(k), k there -/
def rPopI (K : PySem.W.Frag) : V → List V → Hp → VK → Prop := fun x xs H Q => ∃ a b k es v, x = .ref a ∧ xs = [.ref b] ∧ SqT K H b (k.map V.int) ∧ H a = some (DicI a es) ∧ KeysI K H es ∧ atI2 es k = some v ∧ Q v (upd H a (DicI a (wthI es k)))
theorem mt_popI {K : PySem.W.Frag} (hK : X.K = K) (hu : X.A.units + 1 < cLine) : MtR X "dict.pop" (rPopI K) := by
  subst hK
  intro pins s σ H x xs v us Q I rx rxs h
  obtain ⟨a, b, k, es, v0, rfl, rfl, hb, ha, ks, e, q⟩ := h
  cases rx
  cases rxs with
  | cons r1 r2 =>
    cases r2
    cases r1
    obtain ⟨z, hd, xs', t, dd⟩ := dicI_of I ha ks
    have lx : xs'.length = es.length := (Paired.length t).symm
    obtain ⟨p, hp, rp⟩ := twoI_at t v0 e
    refine call_meetsIn PySem.F.slot_dict_pop dd.typeIs PySem.F.entry_dict_pop (PySem.F.args_dict_pop_2 _ _) (meetsH_dict_pop (knd := tupleKind (PySem.intKind X.prog X.w)) (d := a) (a := b) hd [] (.inl rfl))
      ⟨tupleKind_room_in1 hu, k, xs', keyI_is I hb, dd, by rw [lx]; exact z, fun p' hp' h' dd' hs => ?_, fun hn => by rw [hp] at hn; cases hn⟩
    cases hp.symm.trans hp'
    obtain ⟨ob, ds, ep, q1, q2, q3, q4, _, q5⟩ := dd'
    show EP X pins σ Q p.2 _
    exact ⟨v0, _, d_write I (by rw [ha]; exact True.intro) hs ⟨ob, q1⟩ (dicI_ok ⟨Nat.le_trans (List.length_filter_le _ _) z, hd, _, twoI_wth t, ob, ds, ep, q1, q2, q3, by rw [q4, raw_entI (X := X)], q5⟩), rp, q⟩
end
/-- a method of such a dict -/
def dicIV (x : V) (H : Hp) : Prop := ∃ p es, x = .ref p ∧ H p = some (DicI p es)
def tBMI (r : V → List V → Hp → VK → Prop) (to : TE) (t : TA) : TE := fun σ H Q => to σ H fun x H1 => dicIV x H1 ∧ t σ H1 fun xs H2 => r x xs H2 Q
section
variable {X : Cx} {o e : Expr} {es : List Expr} {to : TE} {t : TA} {name : Str} {apos cpos : Pos} {id : String} {r : V → List V → Hp → VK → Prop}
theorem pe_bmI (sl : Slot "dict" name id) (ht : typeOf (.builtin id) = pure (.type "method_descriptor")) (hm : MtR X id r) (ho : PE X o to) (ha : PA X (e :: es) t)
    (hb : attributeBase o name X.env (eval o X.env) = eval o X.env := by rfl)
    (hf : ((backTo cpos (starEach (e :: es) X.env)).all (fun x => !x.1) && (backToKw cpos (keywordEach [] X.env)).all (fun x => x.1.isSome) && decide ((e :: es).length + ([] : List Keyword).length + (if ([] : List Keyword).isEmpty then 0 else 1) < 30)) = true := by rfl)
    (hl : (apos.endLine == cpos.line) = true := by rfl) (hs : starEach (e :: es) X.env = (false, eval e X.env) :: starEach es X.env := by rfl) (hp : (backTo cpos (starEach es X.env)).any (·.1) = false := by rfl) :
    PE X (.Call (.Attribute o name apos) (e :: es) [] cpos) (tBMI r to t) := ⟨fun pins s σ H Q I h =>
  wpAny_Call_method_late hb hf hl rfl (thn (ho.run pins s σ H _ I h) fun v s1 ⟨x, H1, I1, r1, tv, q1⟩ => by
    obtain ⟨p, es', rfl, hob⟩ := tv
    cases r1
    obtain ⟨⟨_, _, _, _, ob, _, _, g1, g2, _⟩, _⟩ := I1.hok p _ hob
    have hA := ha.run cpos pins s1 σ H1 _ I1 q1
    rw [hs] at hA ⊢
    exact ⟨"dict", id, PySem.F.plainAttrs_dict, sl, ht, ⟨ob, g1, g2.1⟩, fun a z => by cases z; exact ⟨ob, g1, g2.2.1⟩,
      Calls.callWith_builtin (by show (false || (backTo cpos (starEach es X.env)).any (·.1)) = false; rw [hp] <;> rfl) (Calls.evalArgs_plain (thn hA fun us s2 ⟨vs, H2, I2, r2, q2⟩ => hm pins s2 σ H2 (.ref p) vs (.ref p) us Q I2 rfl r2 q2))⟩)⟩
end
def rLenI (K : PySem.W.Frag) : List V → Hp → VK → Prop := fun xs H Q => ∃ p es, xs = [.ref p] ∧ H p = some (DicI p es) ∧ KeysI K H es ∧ Q (.int ((es.length : Nat) : Int)) H
theorem cr_lenI {X : Cx} {K : PySem.W.Frag} (hK : X.K = K) : CallR X (.builtin "len") (rLenI K) := by
  subst hK
  intro pins s σ H xs us Q I r h
  obtain ⟨p, es, rfl, hp, ks, q⟩ := h
  obtain ⟨u, rfl, rx⟩ := vals1 r
  obtain rfl : u = .ref p := rx
  obtain ⟨z, hd, ys, rel, dd⟩ := dicI_of I hp ks
  have hl : es.length = ys.length := Paired.length rel
  refine call_len_dictH hd dd (by rw [← hl]; rw [sizeLine_eq] at z; omega) ?_
  rw [← hl]
  exact ⟨.int ((es.length : Nat) : Int), H, I.tok _, ⟨_, rfl⟩, q⟩

end Y
/-! ## Values as data, the program as functions of data -/
namespace Y
open PySem PySem.Spec PyProof.Rows L2
/-- data: what a value is, without the heap; ols: a list that may still be written -/
inductive D where
  | non | bl (b : Bool) | int (i : Int) | str (x : Str)
  | lst (ds : List D) | tup (ds : List D) | ols (ds : List D) | tpx (ds : List D) | hole (a : Addr)
  | ins (c : Nat) (ns : List Str) (ds : List D) | scr (ns : List Int) | fn (k : Nat) | cls (c : Nat)
  | dct (k : Nat) (ks ds : List D) | odc (k : Nat) (ks ds : List D) | oin (c : Nat) (ns : List Str) (ds : List D)
deriving Inhabited
mutual
/-- never to be written again -/
def D.fz : D → D
  | .ols ds => .lst (fzs ds)
  | .odc k ks ds => .dct k ks ds
  | .oin c ns ds => .ins c ns (fzs ds)
  | .dct k ks ds => .dct k ks ds
  | .non => .non | .bl b => .bl b | .int i => .int i | .str x => .str x | .lst ds => .lst ds | .tup ds => .tup ds | .tpx ds => .tpx ds | .hole v => .hole v | .ins c ns ds => .ins c ns ds | .scr ns => .scr ns | .fn k => .fn k | .cls c => .cls c
def fzs : List D → List D
  | [] => []
  | d :: ds => d.fz :: fzs ds
end
theorem fzs_eq : ∀ ds : List D, fzs ds = ds.map D.fz
  | [] => by simp [fzs]
  | d :: ds => by simp [fzs, fzs_eq ds]
def D.isO : D → Bool
  | .ols _ => true
  | .odc _ _ _ => true
  | .oin _ _ _ => true
  | _ => false
/-- the classes of a text: where they stand -/
structure CTB where
  adr : Nat → Addr
  slt : Nat → Bool
  err : Nat → Addr
  fld : Nat → Str
  sls : Nat → List Str
  fnc : Nat → Addr
/-- .. and what holds of what is never written again -/
structure CT where
  b : CTB
  inv : Hp → Prop
  mono : ∀ R R', Same R R' → inv R → inv R'
inductive Rep (K : PySem.W.Frag) (ct : CTB) (R : Hp) : V → D → Prop
  | non : Rep K ct R .non .non
  | bl (b : Bool) : Rep K ct R (.bl b) (.bl b)
  | int (i : Int) : Rep K ct R (.int i) (.int i)
  | str (x : Str) : Rep K ct R (.str x) (.str x)
  | scr {a : Addr} {ns : List Int} (h : SqL K R a (ns.map V.int)) : Rep K ct R (.ref a) (.scr ns)
  | lst {a : Addr} {vs : List V} {ds : List D} (h : R a = some (.lst vs)) (hl : vs.length = ds.length) (hc : ∀ (i : Nat) (v : V) (d : D), vs[i]? = some v → ds[i]? = some d → Rep K ct R v d) : Rep K ct R (.ref a) (.lst ds)
  | tup {a : Addr} {vs : List V} {ds : List D} (h : SqT K R a vs) (hl : vs.length = ds.length) (hc : ∀ (i : Nat) (v : V) (d : D), vs[i]? = some v → ds[i]? = some d → Rep K ct R v d) : Rep K ct R (.ref a) (.tup ds)
  | tpx {a : Addr} {o : Obj} {vs : List V} {ds : List D} (h : R a = some (.frz o (.tup vs))) (hd : o.dict = none) (hl : vs.length = ds.length) (hc : ∀ (i : Nat) (v : V) (d : D), vs[i]? = some v → ds[i]? = some d → Rep K ct R v d) : Rep K ct R (.ref a) (.tpx ds)
  | hole (a : Addr) : Rep K ct R (.ref a) (.hole a)
  | ins {a dx : Addr} {c : Nat} {ns : List Str} {vs : List V} {ds : List D} (hs : ct.slt c = false) (h : R a = some (.ins (ct.adr c) dx (ns.zip vs))) (hn : ns.length = vs.length) (hl : vs.length = ds.length)
      (hc : ∀ (i : Nat) (v : V) (d : D), vs[i]? = some v → ds[i]? = some d → Rep K ct R v d) : Rep K ct R (.ref a) (.ins c ns ds)
  | slt {a dx : Addr} {c : Nat} {ns : List Str} {ws : List (Option V)} {vs : List V} {ds : List D} (hs : ct.slt c = true) (h : SlX.Slt R a (ct.adr c) dx ws) (hw : ∀ (i : Nat) (f : Str) (v : V), ns[i]? = some f → vs[i]? = some v → ws[(ct.sls c).idxOf f]? = some (some v)) (hn : ns.length = vs.length) (hl : vs.length = ds.length)
      (hc : ∀ (i : Nat) (v : V) (d : D), vs[i]? = some v → ds[i]? = some d → Rep K ct R v d) : Rep K ct R (.ref a) (.ins c ns ds)
  | fn (k : Nat) : Rep K ct R (.ref (ct.fnc k)) (.fn k)
  | cls (c : Nat) : Rep K ct R (.ref (ct.adr c)) (.cls c)
  | dct {a : Addr} {es : List EntB} {ks ds : List D} (h : R a = some (DicB a es)) (hk : ks = es.map fun e => D.tup (e.1.map D.bl)) (kb : KeysB K R es) (hl : es.length = ds.length)
      (hc : ∀ (i : Nat) (v : V) (d : D), (es.map (·.2.2))[i]? = some v → ds[i]? = some d → Rep K ct R v d) : Rep K ct R (.ref a) (.dct 0 ks ds)
  | dci {a : Addr} {es : List EntI} {ks ds : List D} (h : R a = some (DicI a es)) (hk : ks = es.map fun e => D.tup (e.1.map D.int)) (kb : KeysI K R es) (hl : es.length = ds.length)
      (hc : ∀ (i : Nat) (v : V) (d : D), (es.map (·.2.2))[i]? = some v → ds[i]? = some d → Rep K ct R v d) : Rep K ct R (.ref a) (.dct 1 ks ds)
/-- lists of them -/
def Reps (K : PySem.W.Frag) (ct : CTB) (R : Hp) (vs : List V) (ds : List D) : Prop := vs.length = ds.length ∧ ∀ (i : Nat) (v : V) (d : D), vs[i]? = some v → ds[i]? = some d → Rep K ct R v d
theorem Slt_mono {H H' : Hp} {a C dx : Addr} {vs : List (Option V)} (h : SlX.Slt H a C dx vs) (e : Same H H') : SlX.Slt H' a C dx vs := by
  rcases h with ⟨h1, h2⟩ | ⟨h1, h2⟩
  · exact .inl ⟨e _ _ h1, h2⟩
  · exact .inr ⟨e _ _ h1, e _ _ h2⟩
section
variable {K : PySem.W.Frag} {ct : CTB} {R R' H H' : Hp}
theorem SqL.mono {a : Addr} {xs : List V} (e : Same H H') (h : SqL K H a xs) : SqL K H' a xs := e.seq h
theorem SqT.mono {a : Addr} {xs : List V} (e : Same H H') (h : SqT K H a xs) : SqT K H' a xs := by
  rcases h with (h | ⟨o, h⟩) | h
  · exact .inl (.inl (e _ _ h))
  · exact .inl (.inr ⟨o, e _ _ h⟩)
  · exact .inr h
theorem Rep.mono {v : V} {d : D} (h : Rep K ct R v d) (e : Same R R') : Rep K ct R' v d := by
  induction h with
  | non => exact .non
  | bl b => exact .bl b
  | int i => exact .int i
  | str x => exact .str x
  | scr h => exact .scr (SqL.mono e h)
  | lst h hl _ ih => exact .lst (e _ _ h) hl ih
  | tup h hl _ ih => exact .tup (SqT.mono e h) hl ih
  | tpx h hd hl _ ih => exact .tpx (e _ _ h) hd hl ih
  | hole v => exact .hole v
  | ins hs h hn hl _ ih => exact .ins hs (e _ _ h) hn hl ih
  | slt hs h hw hn hl _ ih => exact .slt hs (Slt_mono h e) hw hn hl ih
  | fn k => exact .fn k
  | cls c => exact .cls c
  | dct h hk kb hl _ ih => exact .dct (e _ _ h) hk (fun x hx => SqT.mono e (kb x hx)) hl ih
  | dci h hk kb hl _ ih => exact .dci (e _ _ h) hk (fun x hx => SqT.mono e (kb x hx)) hl ih
theorem Rep.fz {v : V} {d : D} (h : Rep K ct R v d) : d.fz = d := by
  cases h <;> simp [D.fz]
theorem Rep.isO {v : V} {d : D} (h : Rep K ct R v d) : d.isO = false := by
  cases h <;> rfl
theorem Reps.mono {vs : List V} {ds : List D} (h : Reps K ct R vs ds) (e : Same R R') : Reps K ct R' vs ds := ⟨h.1, fun i v d a b => (h.2 i v d a b).mono e⟩
theorem Reps.nil : Reps K ct R [] [] := ⟨rfl, fun i v d a _ => by simp at a⟩
theorem Reps.cons {v : V} {d : D} {vs : List V} {ds : List D} (h : Rep K ct R v d) (t : Reps K ct R vs ds) : Reps K ct R (v :: vs) (d :: ds) := by
  refine ⟨by simp [t.1], fun i w e a b => ?_⟩
  cases i with
  | zero =>
    cases (show v = w by simpa using a)
    cases (show d = e by simpa using b)
    exact h
  | succ i => exact t.2 i w e (by simpa using a) (by simpa using b)
theorem Reps.head {v : V} {d : D} {vs : List V} {ds : List D} (h : Reps K ct R (v :: vs) (d :: ds)) : Rep K ct R v d := h.2 0 v d rfl rfl
theorem Reps.tail {v : V} {d : D} {vs : List V} {ds : List D} (h : Reps K ct R (v :: vs) (d :: ds)) : Reps K ct R vs ds :=
  ⟨by simpa using h.1, fun i w e a b => h.2 (i + 1) w e (by simpa using a) (by simpa using b)⟩
theorem Reps.fzs {vs : List V} {ds : List D} (h : Reps K ct R vs ds) : fzs ds = ds := by
  rw [fzs_eq]
  refine List.ext_getElem? fun i => ?_
  rw [List.getElem?_map]
  cases e : ds[i]? with
  | none => rfl
  | some d =>
    have hi : i < vs.length := by rw [h.1]; exact (List.getElem?_eq_some_iff.mp e).1
    rw [Option.map_some, (h.2 i vs[i] d (List.getElem?_eq_getElem hi) e).fz]
theorem Reps.nil_inv {vs : List V} (h : Reps K ct R vs []) : vs = [] := List.eq_nil_of_length_eq_zero h.1
theorem Reps.cons_inv {vs : List V} {d : D} {ds : List D} (h : Reps K ct R vs (d :: ds)) : ∃ v ws, vs = v :: ws ∧ Rep K ct R v d ∧ Reps K ct R ws ds := by
  match vs, h with
  | [], h => exact absurd h.1 (by simp)
  | v :: ws, h => exact ⟨v, ws, rfl, h.head, h.tail⟩
theorem Reps.at {vs : List V} {ds : List D} (h : Reps K ct R vs ds) {i : Nat} {d : D} (e : ds[i]? = some d) : ∃ v, vs[i]? = some v ∧ Rep K ct R v d := by
  have hi : i < ds.length := (List.getElem?_eq_some_iff.mp e).1
  have hv : i < vs.length := by rw [h.1]; exact hi
  exact ⟨vs[i], List.getElem?_eq_getElem hv, h.2 i _ d (List.getElem?_eq_getElem hv) e⟩
theorem Reps.app {vs ws : List V} {ds es : List D} (h : Reps K ct R vs ds) (g : Reps K ct R ws es) : Reps K ct R (vs ++ ws) (ds ++ es) := by
  refine ⟨by simp [h.1, g.1], fun i v d a b => ?_⟩
  by_cases hi : i < vs.length
  · rw [List.getElem?_append_left hi] at a
    rw [List.getElem?_append_left (by rw [← h.1]; exact hi)] at b
    exact h.2 i v d a b
  · rw [List.getElem?_append_right (by omega)] at a
    rw [List.getElem?_append_right (by rw [← h.1]; omega), ← h.1] at b
    exact g.2 _ v d a b
theorem Reps.snoc {vs : List V} {ds : List D} {v : V} {d : D} (h : Reps K ct R vs ds) (g : Rep K ct R v d) : Reps K ct R (vs ++ [v]) (ds ++ [d]) := h.app (Reps.nil.cons g)
theorem Reps.take {vs : List V} {ds : List D} (n : Nat) (h : Reps K ct R vs ds) : Reps K ct R (vs.take n) (ds.take n) := by
  refine ⟨by simp [h.1], fun i v d a b => ?_⟩
  rw [List.getElem?_take] at a b
  split at a
  · exact h.2 i v d a (by simpa [*] using b)
  · cases a
theorem Reps.drop {vs : List V} {ds : List D} (n : Nat) (h : Reps K ct R vs ds) : Reps K ct R (vs.drop n) (ds.drop n) := by
  refine ⟨by simp [h.1], fun i v d a b => ?_⟩
  rw [List.getElem?_drop] at a b
  exact h.2 _ v d a b
theorem Reps.set {vs : List V} {ds : List D} {v : V} {d : D} (n : Nat) (h : Reps K ct R vs ds) (g : Rep K ct R v d) : Reps K ct R (vs.set n v) (ds.set n d) := by
  refine ⟨by simp [h.1], fun i w e a b => ?_⟩
  rw [List.getElem?_set] at a b
  by_cases hn : n = i
  · rw [if_pos hn] at a b
    split at a
    · split at b
      · cases a; cases b; exact g
      · cases b
    · cases a
  · rw [if_neg hn] at a b
    exact h.2 i w e a b
theorem Reps.rep {vs : List V} {ds : List D} {v : V} {d : D} (g : Rep K ct R v d) : ∀ n : Nat, Reps K ct R (List.replicate n v) (List.replicate n d)
  | 0 => Reps.nil
  | n + 1 => (Reps.rep (vs := vs) (ds := ds) g n).cons g
theorem Reps.ints (ns : List Int) : Reps K ct R (ns.map V.int) (ns.map D.int) := by
  induction ns with
  | nil => exact .nil
  | cons n ns ih => exact ih.cons (.int n)
theorem Rep.lst_inv {v : V} {ds : List D} (h : Rep K ct R v (.lst ds)) : ∃ a vs, v = .ref a ∧ R a = some (.lst vs) ∧ Reps K ct R vs ds := by
  cases h with
  | lst h hl hc => exact ⟨_, _, rfl, h, hl, hc⟩
theorem Rep.tup_inv {v : V} {ds : List D} (h : Rep K ct R v (.tup ds)) : ∃ a vs, v = .ref a ∧ SqT K R a vs ∧ Reps K ct R vs ds := by
  cases h with
  | tup h hl hc => exact ⟨_, _, rfl, h, hl, hc⟩
theorem Rep.tpx_tup {v : V} {ds : List D} (h : Rep K ct R v (.tpx ds)) : Rep K ct R v (.tup ds) := by
  cases h with
  | tpx h hd hl hc => exact .tup (.inl (.inr ⟨_, h⟩)) hl hc
theorem Rep.hole_inv {v : V} {a : Addr} (h : Rep K ct R v (.hole a)) : v = .ref a := by cases h; rfl
theorem Rep.int_inv {v : V} {i : Int} (h : Rep K ct R v (.int i)) : v = .int i := by cases h; rfl
theorem Rep.bl_inv {v : V} {b : Bool} (h : Rep K ct R v (.bl b)) : v = .bl b := by cases h; rfl
theorem Rep.str_inv {v : V} {x : Str} (h : Rep K ct R v (.str x)) : v = .str x := by cases h; rfl
theorem Rep.non_inv {v : V} (h : Rep K ct R v .non) : v = .non := by cases h; rfl
end
/-- R: what is never written again; F: what is one's own -/
inductive Own (K : PySem.W.Frag) (ct : CTB) (R H : Hp) : (Addr → Prop) → V → D → Prop
  | fz {F : Addr → Prop} {v : V} {d : D} (h : Rep K ct R v d) : Own K ct R H F v d
  | ols {F : Addr → Prop} {a : Addr} {vs : List V} {ds : List D} (G : Nat → Addr → Prop) (h : H a = some (.lst vs)) (hF : F a) (hl : vs.length = ds.length)
      (hc : ∀ (i : Nat) (v : V) (d : D), vs[i]? = some v → ds[i]? = some d → Own K ct R H (G i) v d) (hG : ∀ i b, G i b → F b ∧ b ≠ a) (hd : ∀ i j b, i ≠ j → G i b → ¬ G j b) : Own K ct R H F (.ref a) (.ols ds)
  | odc {F : Addr → Prop} {a : Addr} {es : List EntB} {ks ds : List D} (h : H a = some (DicB a es)) (hF : F a) (hk : ks = es.map fun e => D.tup (e.1.map D.bl)) (kb : KeysB K R es) (r : Reps K ct R (es.map (·.2.2)) ds) : Own K ct R H F (.ref a) (.odc 0 ks ds)
  | odi {F : Addr → Prop} {a : Addr} {es : List EntI} {ks ds : List D} (h : H a = some (DicI a es)) (hF : F a) (hk : ks = es.map fun e => D.tup (e.1.map D.int)) (kb : KeysI K R es) (r : Reps K ct R (es.map (·.2.2)) ds) : Own K ct R H F (.ref a) (.odc 1 ks ds)
  | oin {F : Addr → Prop} {a dx : Addr} {c : Nat} {ns : List Str} {vs : List V} {ds : List D} (G : Nat → Addr → Prop) (hs : ct.slt c = false) (h : H a = some (.ins (ct.adr c) dx (ns.zip vs))) (hF : F a) (hn : ns.length = vs.length) (hl : vs.length = ds.length)
      (hc : ∀ (i : Nat) (v : V) (d : D), vs[i]? = some v → ds[i]? = some d → Own K ct R H (G i) v d) (hG : ∀ i b, G i b → F b ∧ b ≠ a) (hd : ∀ i j b, i ≠ j → G i b → ¬ G j b) : Own K ct R H F (.ref a) (.oin c ns ds)
  | osl {F : Addr → Prop} {a dx : Addr} {c : Nat} {ns : List Str} {ws : List (Option V)} {vs : List V} {ds : List D} (hs : ct.slt c = true) (h : SlX.Slt H a (ct.adr c) dx ws) (hF : F a) (hX : F dx) (ne : dx ≠ a) (hk : ∀ f ∈ ns, f ∈ ct.sls c)
      (hw : ∀ (i : Nat) (f : Str) (v : V), ns[i]? = some f → vs[i]? = some v → ws[(ct.sls c).idxOf f]? = some (some v)) (hn : ns.length = vs.length) (r : Reps K ct R vs ds) : Own K ct R H F (.ref a) (.oin c ns ds)
section
variable {K : PySem.W.Frag} {ct : CTB} {R R' H H' : Hp} {F F' : Addr → Prop} {v : V} {d : D}
theorem Own.monoR (e : Same R R') (h : Own K ct R H F v d) : Own K ct R' H F v d := by
  induction h with
  | fz h => exact .fz (h.mono e)
  | ols G h hF hl _ hG hd ih => exact .ols G h hF hl ih hG hd
  | odc h hF hk kb r => exact .odc h hF hk (fun x hx => SqT.mono e (kb x hx)) (r.mono e)
  | odi h hF hk kb r => exact .odi h hF hk (fun x hx => SqT.mono e (kb x hx)) (r.mono e)
  | oin G hs h hF hn hl _ hG hd ih => exact .oin G hs h hF hn hl ih hG hd
  | osl hs h hF hX ne hk hw hn r => exact .osl hs h hF hX ne hk hw hn (r.mono e)
theorem Own.monoH (h : Own K ct R H F v d) : (∀ b o, F b → H b = some o → H' b = some o) → Own K ct R H' F v d := by
  induction h with
  | fz h => exact fun _ => .fz h
  | ols G h hF hl _ hG hd ih => exact fun e => .ols G (e _ _ hF h) hF hl (fun i v d a b => ih i v d a b fun c o g => e c o (hG i c g).1) hG hd
  | odc h hF hk kb r => exact fun e => .odc (e _ _ hF h) hF hk kb r
  | odi h hF hk kb r => exact fun e => .odi (e _ _ hF h) hF hk kb r
  | oin G hs h hF hn hl _ hG hd ih => exact fun e => .oin G hs (e _ _ hF h) hF hn hl (fun i v d a b => ih i v d a b fun c o g => e c o (hG i c g).1) hG hd
  | osl hs h hF hX ne hk hw hn r =>
    refine fun e => .osl hs ?_ hF hX ne hk hw hn r
    rcases h with ⟨h1, h2⟩ | ⟨h1, h2⟩
    · exact .inl ⟨e _ _ hF h1, h2⟩
    · exact .inr ⟨e _ _ hF h1, e _ _ hX h2⟩
theorem Own.monoF (e : ∀ b, F b → F' b) (h : Own K ct R H F v d) : Own K ct R H F' v d := by
  cases h with
  | fz h => exact .fz h
  | ols G h hF hl hc hG hd => exact .ols G h (e _ hF) hl hc (fun i b g => ⟨e _ (hG i b g).1, (hG i b g).2⟩) hd
  | odc h hF hk kb r => exact .odc h (e _ hF) hk kb r
  | odi h hF hk kb r => exact .odi h (e _ hF) hk kb r
  | oin G hs h hF hn hl hc hG hd => exact .oin G hs h (e _ hF) hn hl hc (fun i b g => ⟨e _ (hG i b g).1, (hG i b g).2⟩) hd
  | osl hs h hF hX ne hk hw hn r => exact .osl hs h (e _ hF) (e _ hX) ne hk hw hn r
theorem Own.rep (h : Own K ct R H F v d) (o : d.isO = false) : Rep K ct R v d := by
  cases h with
  | fz h => exact h
  | ols => cases o
  | odc => cases o
  | odi => cases o
  | oin => cases o
  | osl => cases o
theorem Own.froze (h : Own K ct R H F v d) : Same R R' → (∀ b, F b → R' b = H b) → Rep K ct R' v d.fz := by
  induction h with
  | fz h => exact fun e _ => by rw [h.fz]; exact h.mono e
  | ols G h hF hl _ hG hd ih =>
    intro e f
    rw [D.fz, fzs_eq]
    refine .lst ((f _ hF).trans h) (by simpa using hl) fun i v d a b => ?_
    rw [List.getElem?_map] at b
    obtain ⟨d', hd', rfl⟩ := Option.map_eq_some_iff.mp b
    exact ih i v d' a hd' e fun c g => f c (hG i c g).1
  | odc h hF hk kb r => exact fun e f => .dct ((f _ hF).trans h) hk (fun x hx => SqT.mono e (kb x hx)) (by simpa using r.1) (r.mono e).2
  | odi h hF hk kb r => exact fun e f => .dci ((f _ hF).trans h) hk (fun x hx => SqT.mono e (kb x hx)) (by simpa using r.1) (r.mono e).2
  | oin G hs h hF hn hl _ hG hd ih =>
    intro e f
    rw [D.fz, fzs_eq]
    refine .ins hs ((f _ hF).trans h) hn (by simpa using hl) fun i v d a b => ?_
    rw [List.getElem?_map] at b
    obtain ⟨d', hd', rfl⟩ := Option.map_eq_some_iff.mp b
    exact ih i v d' a hd' e fun c g => f c (hG i c g).1
  | @osl F a dx c ns ws vs ds hs h hF hX ne hk hw hn r =>
    intro e f
    rw [D.fz, r.fzs]
    refine .slt (dx := dx) hs ?_ hw hn r.1 (r.mono e).2
    rcases h with ⟨h1, h2⟩ | ⟨h1, h2⟩
    · exact .inl ⟨(f _ hF).trans h1, h2⟩
    · exact .inr ⟨(f _ hF).trans h1, (f _ hX).trans h2⟩
/-- a list of one's own that holds what is never written again -/
theorem Own.flat {a : Addr} {vs : List V} {ds : List D} (h : H a = some (.lst vs)) (hF : F a) (r : Reps K ct R vs ds) : Own K ct R H F (.ref a) (.ols ds) :=
  .ols (fun _ _ => False) h hF r.1 (fun i v d a b => .fz (r.2 i v d a b)) (fun _ _ g => g.elim) fun _ _ _ _ g => g.elim
end
def CTB.triv (b : CTB) : CT := ⟨b, fun _ => True, fun _ _ _ h => h⟩
abbrev Env := List (Option D)
/-- what stands between the slots and the heap: R is never written again; H0 is another's -/
structure Ok (K : PySem.W.Frag) (ct : CT) (H0 : Hp) (ms : List Nat) (vp : Nat → V) (ρ : Env) (σ : L2.St) (R H : Hp) : Prop where
  same : Same R H
  keep : Same H0 H
  inv : ct.inv R
  len : σ.length = ρ.length
  pins : ∀ i ∈ ms, σ[i]? = some (some (vp i))
  own : ∃ F : Nat → Addr → Prop, (∀ i d, ρ[i]? = some (some d) → ∃ v, σ[i]? = some (some v) ∧ Own K ct.b R H (F i) v d) ∧ (∀ i j b, i ≠ j → F i b → ¬ F j b) ∧ ∀ i b, F i b → R b = none ∧ H b ≠ none ∧ H0 b = none
theorem Ok.cast {K : PySem.W.Frag} {ct : CT} {ct' : CT} {H0 : Hp} {ms : List Nat} {vp : Nat → V} {ρ : Env} {σ : L2.St} {R H : Hp} (ok : Ok K ct H0 ms vp ρ σ R H) (e : ct'.b = ct.b) (iv : ct'.inv R) : Ok K ct' H0 ms vp ρ σ R H := by
  obtain ⟨s, k, _, l, p, F, f⟩ := ok
  refine ⟨s, k, iv, l, p, F, ?_⟩
  rw [e]
  exact f
/-- R grows, by what is new or was one's own -/
def Gr (H0 R R' : Hp) : Prop := Same R R' ∧ ∀ b, R' b ≠ none → R b ≠ none ∨ H0 b = none
theorem Gr.refl (H0 R : Hp) : Gr H0 R R := ⟨Same.refl _, fun _ h => .inl h⟩
theorem Gr.trans {H0 R R1 R2 : Hp} (a : Gr H0 R R1) (b : Gr H0 R1 R2) : Gr H0 R R2 := ⟨a.1.trans b.1, fun c h => (b.2 c h).elim (a.2 c) .inr⟩
/-- both grow, by what is new -/
structure Ext (R H R' H' : Hp) : Prop where
  r : Same R R'
  s : Same R' H'
  h : Same H H'
  n : ∀ b, R' b ≠ none → R b ≠ none ∨ H b = none
section
variable {K : PySem.W.Frag} {ct : CT} {H0 R R' H H' : Hp} {ms : List Nat} {vp : Nat → V} {ρ : Env} {σ : L2.St}
theorem Ext.refl (s : Same R H) : Ext R H R H := ⟨Same.refl _, s, Same.refl _, fun _ h => .inl h⟩
theorem Ext.trans {R2 H2 : Hp} (a : Ext R H R' H') (b : Ext R' H' R2 H2) : Ext R H R2 H2 := ⟨a.r.trans b.r, b.s, a.h.trans b.h, fun c h => by
  rcases b.n c h with h | h
  · exact a.n c h
  · exact .inr (a.h.free h)⟩
theorem Ext.gr (e : Ext R H R' H') (k : Same H0 H) : Gr H0 R R' := ⟨e.r, fun b h => (e.n b h).imp id fun z => k.free z⟩
theorem Ext.new {p : Addr} {o : HO} (s : Same R H) (hp : H p = none) : Ext R H (upd R p o) (upd H p o) := by
  have hr : R p = none := s.free hp
  refine ⟨fun a u h => ?_, fun a u h => ?_, fun a u h => ?_, fun b h => ?_⟩
  · rw [upd_ne (ne_of_none h hr)]; exact h
  · by_cases e : a = p
    · subst e; rw [upd_same] at h ⊢; exact h
    · rw [upd_ne e] at h ⊢; exact s _ _ h
  · rw [upd_ne (ne_of_none h hp)]; exact h
  · by_cases e : b = p
    · subst e; exact .inr hp
    · rw [upd_ne e] at h; exact .inl h
theorem Ext.heap {p : Addr} {o : HO} (s : Same R H) (hp : H p = none) : Ext R H R (upd H p o) := by
  have k : Same H (upd H p o) := fun a u h => by rw [upd_ne (ne_of_none h hp)]; exact h
  exact ⟨Same.refl _, s.trans k, k, fun _ h => .inl h⟩
theorem Ok.ext (ok : Ok K ct H0 ms vp ρ σ R H) (e : Ext R H R' H') : Ok K ct H0 ms vp ρ σ R' H' := by
  obtain ⟨s, k, iv, l, p, F, f1, f2, f3⟩ := ok
  refine ⟨e.s, k.trans e.h, ct.mono _ _ e.r iv, l, p, F, fun i d h => ?_, f2, fun i b h => ?_⟩
  · obtain ⟨v, a, o⟩ := f1 i d h
    exact ⟨v, a, (o.monoR e.r).monoH fun b x _ q => e.h b x q⟩
  · obtain ⟨a, b', c⟩ := f3 i b h
    refine ⟨?_, fun z => b' (e.h.free z), c⟩
    cases q : R' b with
    | none => rfl
    | some x =>
      rcases e.n b (by rw [q]; exact Option.some_ne_none x) with z | z
      · exact absurd a z
      · exact absurd z b'
/-- a slot that holds nothing that may be written -/
theorem Ok.slot (ok : Ok K ct H0 ms vp ρ σ R H) {i : Nat} {d : D} (h : ρ[i]? = some (some d)) (o : d.isO = false) : ∃ v, σ[i]? = some (some v) ∧ Rep K ct.b R v d := by
  obtain ⟨F, f1, _, _⟩ := ok.own
  obtain ⟨v, a, w⟩ := f1 i d h
  exact ⟨v, a, w.rep o⟩
/-- a slot's content is never written again from here on -/
theorem Ok.freeze (ok : Ok K ct H0 ms vp ρ σ R H) {i : Nat} {d : D} (h : ρ[i]? = some (some d)) :
    ∃ v R', σ[i]? = some (some v) ∧ Gr H0 R R' ∧ Rep K ct.b R' v d.fz ∧ Ok K ct H0 ms vp (ρ.set i (some d.fz)) σ R' H := by
  obtain ⟨s, k, iv, l, p, F, f1, f2, f3⟩ := ok
  obtain ⟨v, a, w⟩ := f1 i d h
  classical
  have eR : ∀ b o, R b = some o → (if F i b then H b else R b) = some o := fun b o q => by
    by_cases z : F i b
    · rw [(f3 i b z).1] at q; cases q
    · rw [if_neg z]; exact q
  have eF : ∀ b, F i b → (if F i b then H b else R b) = H b := fun b z => if_pos z
  have rp : Rep K ct.b (fun b => if F i b then H b else R b) v d.fz := w.froze eR eF
  refine ⟨v, fun b => if F i b then H b else R b, a, ⟨eR, fun b q => ?_⟩, rp, ?_⟩
  · by_cases z : F i b
    · exact .inr (f3 i b z).2.2
    · dsimp only at q; rw [if_neg z] at q; exact .inl q
  refine ⟨fun b o q => ?_, k, ct.mono _ _ eR iv, by simpa using l, p, fun j b => j ≠ i ∧ F j b, fun j e q => ?_, fun j j' b ne x y => f2 j j' b ne x.2 y.2, fun j b q => ?_⟩
  · by_cases z : F i b
    · simpa [z] using q
    · try dsimp only at q
      rw [if_neg z] at q; exact s b o q
  · by_cases z : j = i
    · subst z
      have hj : j < ρ.length := (List.getElem?_eq_some_iff.mp h).1
      rw [List.getElem?_set_self hj] at q
      cases q
      exact ⟨v, a, .fz rp⟩
    · rw [List.getElem?_set_ne (Ne.symm z)] at q
      obtain ⟨u, x, y⟩ := f1 j e q
      exact ⟨u, x, (y.monoR eR).monoF fun b g => ⟨z, g⟩⟩
  · obtain ⟨x, y, z⟩ := f3 j b q.2
    refine ⟨?_, y, z⟩
    try dsimp only
    rw [if_neg (f2 j i b q.1 q.2)]
    exact x
/-- a value at the end is never written again from here on -/
theorem Ok.froze {v : V} {d : D} (ok : Ok K ct H0 ms vp (ρ ++ [some d]) (σ ++ [some v]) R H) (l : σ.length = ρ.length) : ∃ R', Gr H0 R R' ∧ Rep K ct.b R' v d.fz ∧ Ok K ct H0 ms vp (ρ ++ [some d.fz]) (σ ++ [some v]) R' H := by
  obtain ⟨v', R', a, g, r, o⟩ := ok.freeze (i := ρ.length) (d := d) (by simp)
  have e : v' = v := by
    rw [← l] at a
    simpa using a.symm
  subst e
  refine ⟨R', g, r, ?_⟩
  simpa [List.set_append] using o
end
end Y

namespace Y
open PySem PySem.Spec PyProof.Rows L2
/-- what comes of a piece: a value and the slots; an error of the class c with its field; no answer -/
inductive Res (α : Type) where
  | ok (a : α) (ρ : Env)
  | ex (c : Nat) (x : Option D) (ρ : Env)
  | st
abbrev M (α : Type) := Env → Res α
def mP {α : Type} (a : α) : M α := fun ρ => .ok a ρ
def mB {α β : Type} (f : M α) (g : α → M β) : M β := fun ρ => match f ρ with
  | .ok a ρ1 => g a ρ1
  | .ex c x ρ1 => .ex c x ρ1
  | .st => .st
def mO {α : Type} : Option α → M α
  | some a => fun ρ => .ok a ρ
  | none => fun _ => .st
inductive Out where
  | nx (ρ : Env) | rt (d : D) (ρ : Env) | bk (ρ : Env) | ct (ρ : Env) | ex (c : Nat) (x : Option D) (ρ : Env) | st
inductive Ans where
  | ok (d : D) (w : List D) | ex (c : Nat) (x : Option D) (w : List D) | st
abbrev Stm := Env → Out
def XOk (K : PySem.W.Frag) (ct : CTB) (R : Hp) (c : Nat) (x : Option D) (od : Option Addr) : Prop := match x with
  | none => od = none
  | some d => ∃ dd v, od = some dd ∧ R dd = some (.xd [(ct.fld c, v)]) ∧ Rep K ct R v d
section
variable (K : PySem.W.Frag) (ct : CT) (ms : List Nat) (vp : Nat → V) (W : WX)
/-- what is owed for what comes: for a value Post, for an error the way out -/
def Po {α : Type} (H0 : Hp) (σ : L2.St) (R : Hp) (Post : α → Env → Prop) : Res α → Prop
  | .ok a ρ' => Post a ρ'
  | .ex c x ρ' => ∀ od R' H', Gr H0 R R' → Ok K ct H0 ms vp ρ' σ R' H' → XOk K ct.b R' c x od → W (.ref (ct.b.err c)) od σ H'
  | .st => False
/-- the piece t answers as f says: a value of one's own -/
def SimE (t : TE) (f : M D) : Prop := ∀ H0 ρ σ R H, Ok K ct H0 ms vp ρ σ R H → ∀ Q : VK, Po K ct ms vp W H0 σ R (fun d ρ' => ∀ v R' H', Gr H0 R R' → Ok K ct H0 ms vp (ρ' ++ [some d]) (σ ++ [some v]) R' H' → ρ'.length = σ.length → Q v H') (f ρ) → t σ H Q
/-- .. a value that is never written again -/
def SimF (t : TE) (f : M D) : Prop := ∀ H0 ρ σ R H, Ok K ct H0 ms vp ρ σ R H → ∀ Q : VK, Po K ct ms vp W H0 σ R (fun d ρ' => ∀ v R' H', Gr H0 R R' → Ok K ct H0 ms vp ρ' σ R' H' → Rep K ct.b R' v d → Q v H') (f ρ) → t σ H Q
def SimT (t : TT) (f : M Bool) : Prop := ∀ H0 ρ σ R H, Ok K ct H0 ms vp ρ σ R H → ∀ Q : Bool → Hp → Prop, Po K ct ms vp W H0 σ R (fun b ρ' => ∀ R' H', Gr H0 R R' → Ok K ct H0 ms vp ρ' σ R' H' → Q b H') (f ρ) → t σ H Q
def SimA (t : TA) (f : M (List D)) : Prop := ∀ H0 ρ σ R H, Ok K ct H0 ms vp ρ σ R H → ∀ Q : List V → Hp → Prop, Po K ct ms vp W H0 σ R (fun ds ρ' => ∀ vs R' H', Gr H0 R R' → Ok K ct H0 ms vp ρ' σ R' H' → Reps K ct.b R' vs ds → Q vs H') (f ρ) → t σ H Q
def PoS (H0 : Hp) (R : Hp) (D' : Ends) : Out → Prop
  | .nx ρ' => ∀ σ' R' H', Gr H0 R R' → Ok K ct H0 ms vp ρ' σ' R' H' → D'.nx σ' H'
  | .rt d ρ' => ∀ v σ' R' H', Gr H0 R R' → Ok K ct H0 ms vp (ρ' ++ [some d]) (σ' ++ [some v]) R' H' → ρ'.length = σ'.length → D'.rt v H'
  | .bk ρ' => ∀ σ' R' H', Gr H0 R R' → Ok K ct H0 ms vp ρ' σ' R' H' → D'.bk σ' H'
  | .ct ρ' => ∀ σ' R' H', Gr H0 R R' → Ok K ct H0 ms vp ρ' σ' R' H' → D'.ct σ' H'
  | .ex c x ρ' => ∀ od σ' R' H', Gr H0 R R' → Ok K ct H0 ms vp ρ' σ' R' H' → XOk K ct.b R' c x od → W (.ref (ct.b.err c)) od σ' H'
  | .st => False
def SimS (t : TS) (g : Stm) : Prop := ∀ H0 ρ σ R H, Ok K ct H0 ms vp ρ σ R H → ∀ D', PoS K ct ms vp W H0 R D' (g ρ) → t D' σ H
end
section
variable (K : PySem.W.Frag) (ct : CTB)
/-- an operator by what its values are -/
def OpF (r : R2) (op : D → D → Option D) : Prop := ∀ R H x y dx dy, Same R H → Rep K ct R x dx → Rep K ct R y dy → ∀ Q : VK, (match op dx dy with
  | some d => ∀ v R' H', Ext R H R' H' → Rep K ct R' v d → Q v H'
  | none => False) → r x y H Q
/-- .. that lays a list -/
def OpL (r : R2) (op : D → D → Option (List D)) : Prop := ∀ R H x y dx dy, Same R H → Rep K ct R x dx → Rep K ct R y dy → ∀ Q : VK, (match op dx dy with
  | some ds => ∀ p vs, H p = none → Reps K ct R vs ds → Q (.ref p) (upd H p (.lst vs))
  | none => False) → r x y H Q
/-- a built-in function -/
def CbF (r : List V → Hp → VK → Prop) (op : List D → Option D) : Prop := ∀ R H vs ds, Same R H → Reps K ct R vs ds → ∀ Q : VK, (match op ds with
  | some d => ∀ v R' H', Ext R H R' H' → Rep K ct R' v d → Q v H'
  | none => False) → r vs H Q
def CbL (r : List V → Hp → VK → Prop) (op : List D → Option (List D)) : Prop := ∀ R H vs ds, Same R H → Reps K ct R vs ds → ∀ Q : VK, (match op ds with
  | some es => ∀ p ws, H p = none → Reps K ct R ws es → Q (.ref p) (upd H p (.lst ws))
  | none => False) → r vs H Q
def UnF (r : V → Hp → VK → Prop) (op : D → Option D) : Prop := ∀ R H x dx, Same R H → Rep K ct R x dx → ∀ Q : VK, (match op dx with
  | some d => ∀ v R' H', Ext R H R' H' → Rep K ct R' v d → Q v H'
  | none => False) → r x H Q
end
section
variable {K : PySem.W.Frag} {ct : CT} {ms : List Nat} {W : WX} {H0 R R' H H' : Hp} {vp : Nat → V} {ρ : Env} {σ : L2.St}
theorem XOk.mono {c : Nat} {x : Option D} {od : Option Addr} (h : XOk K ct.b R c x od) (e : Same R R') : XOk K ct.b R' c x od := by
  cases x with
  | none => exact h
  | some d =>
    obtain ⟨dd, v, a, b, r⟩ := h
    exact ⟨dd, v, a, e _ _ b, r.mono e⟩
/-! weakening by a step that has been taken -/
theorem Po.bind {α β : Type} {f : M α} {g : α → M β} {Post : β → Env → Prop} (h : Po K ct ms vp W H0 σ R Post (mB f g ρ)) : Po K ct ms vp W H0 σ R (fun a ρ1 => Po K ct ms vp W H0 σ R Post (g a ρ1)) (f ρ) := by
  unfold mB at h
  cases e : f ρ with
  | ok a ρ1 => rw [e] at h; exact h
  | ex c x ρ1 => rw [e] at h; exact h
  | st => rw [e] at h; exact h
theorem Po.gr {α : Type} {Post Post' : α → Env → Prop} {o : Res α} (g : Gr H0 R R') (h : Po K ct ms vp W H0 σ R Post o) (m : ∀ a ρ', Post a ρ' → Post' a ρ') : Po K ct ms vp W H0 σ R' Post' o := by
  cases o with
  | ok a ρ' => exact m a ρ' h
  | ex c x ρ' => exact fun od R2 H2 g2 o l => h od R2 H2 (g.trans g2) o l
  | st => exact h
theorem Po.mono {α : Type} {Post Post' : α → Env → Prop} {o : Res α} (h : Po K ct ms vp W H0 σ R Post o) (m : ∀ a ρ', Post a ρ' → Post' a ρ') : Po K ct ms vp W H0 σ R Post' o := h.gr (Gr.refl _ _) m
theorem Po.opt {α : Type} {Post : α → Env → Prop} {x : Option α} (h : Po K ct ms vp W H0 σ R Post (mO x ρ)) : ∃ a, x = some a ∧ Post a ρ := by
  cases x with
  | none => exact h.elim
  | some a => exact ⟨a, rfl, h⟩
theorem PoS.gr {D' : Ends} {o : Out} (g : Gr H0 R R') (h : PoS K ct ms vp W H0 R D' o) : PoS K ct ms vp W H0 R' D' o := by
  cases o with
  | nx ρ' => exact fun s R2 H2 g2 o => h s R2 H2 (g.trans g2) o
  | bk ρ' => exact fun s R2 H2 g2 o => h s R2 H2 (g.trans g2) o
  | ct ρ' => exact fun s R2 H2 g2 o => h s R2 H2 (g.trans g2) o
  | rt d ρ' => exact fun v s R2 H2 g2 o => h v s R2 H2 (g.trans g2) o
  | ex c x ρ' => exact fun od s R2 H2 g2 o l => h od s R2 H2 (g.trans g2) o l
  | st => exact h
/-! ends of values -/
theorem Ok.temp (ok : Ok K ct H0 ms vp ρ σ R H) {v : V} {d : D} (r : Rep K ct.b R v d) : Ok K ct H0 ms vp (ρ ++ [some d]) (σ ++ [some v]) R H := by
  obtain ⟨s, k, iv, l, p, F, f1, f2, f3⟩ := ok
  refine ⟨s, k, iv, by simp [l], fun i hi => ?_, fun i b => i < ρ.length ∧ F i b, fun i e h => ?_, fun i j b ne x y => f2 i j b ne x.2 y.2, fun i b h => f3 i b h.2⟩
  · have q := p i hi
    have z : i < σ.length := (List.getElem?_eq_some_iff.mp q).1
    rw [List.getElem?_append_left z]
    exact q
  · by_cases z : i < ρ.length
    · rw [List.getElem?_append_left z] at h
      obtain ⟨u, a, b⟩ := f1 i e h
      exact ⟨u, by rw [List.getElem?_append_left (by rw [l]; exact z)]; exact a, b.monoF fun c g => ⟨z, g⟩⟩
    · have z2 : i = ρ.length := by
        have := (List.getElem?_eq_some_iff.mp h).1
        simp at this
        omega
      subst z2
      have : d = e := by simpa using h
      subst this
      exact ⟨v, by rw [← l]; simp, .fz r⟩
theorem Ok.pop {x : Option D} {y : Option V} (ok : Ok K ct H0 ms vp (ρ ++ [x]) (σ ++ [y]) R H) (l : ρ.length = σ.length) (hm : ∀ i ∈ ms, i < σ.length) : Ok K ct H0 ms vp ρ σ R H := by
  obtain ⟨s, k, iv, _, p, F, f1, f2, f3⟩ := ok
  refine ⟨s, k, iv, l.symm, fun i hi => ?_, F, fun i e h => ?_, f2, f3⟩
  · have q := p i hi
    rw [List.getElem?_append_left (hm i hi)] at q
    exact q
  · have z : i < ρ.length := (List.getElem?_eq_some_iff.mp h).1
    obtain ⟨u, a, b⟩ := f1 i e (by rw [List.getElem?_append_left z]; exact h)
    rw [List.getElem?_append_left (by omega)] at a
    exact ⟨u, a, b⟩
theorem Ok.mslt (ok : Ok K ct H0 ms vp ρ σ R H) : ∀ i ∈ ms, i < σ.length := fun i hi => (List.getElem?_eq_some_iff.mp (ok.pins i hi)).1
theorem Ok.gr (ok : Ok K ct H0 ms vp ρ σ R H) (e : Ext R H R' H') : Gr H0 R R' := e.gr ok.keep
def frz (f : M D) : M D := mB f fun d => mP d.fz
theorem SimE.toF {t : TE} {f : M D} (h : SimE K ct ms vp W t f) : SimF K ct ms vp W t (frz f) := fun H0 ρ σ R H ok Q q => by
  refine h H0 ρ σ R H ok Q (Po.mono (Po.bind q) fun d ρ' q v R' H' g ok' l => ?_)
  obtain ⟨R2, g2, r, ok2⟩ := ok'.froze l.symm
  exact q v R2 H' (g.trans g2) (ok2.pop l ok.mslt) r
theorem SimF.toE {t : TE} {f : M D} (h : SimF K ct ms vp W t f) : SimE K ct ms vp W t f := fun H0 ρ σ R H ok Q q =>
  h H0 ρ σ R H ok Q (Po.mono q fun d ρ' q v R' H' g ok' r => q v R' H' g (ok'.temp r) ok'.len.symm)
/-! names and constants -/
def mVar (i : Nat) : M D := fun ρ => match ρ[i]? with
  | some (some d) => if d.isO = true then .ok d.fz (ρ.set i (some d.fz)) else .ok d ρ
  | _ => .st
theorem sim_var {i : Nat} : SimF K ct ms vp W (tVar i) (mVar i) := fun H0 ρ σ R H ok Q q => by
  unfold mVar at q
  split at q
  · rename_i d hd
    by_cases o : d.isO = true
    · rw [if_pos o] at q
      obtain ⟨v, R', a, g, r, ok'⟩ := ok.freeze hd
      exact ⟨v, a, q v R' H g ok' r⟩
    · rw [if_neg o] at q
      obtain ⟨v, a, r⟩ := ok.slot hd (by simpa using o)
      exact ⟨v, a, q v R H (Gr.refl _ _) ok r⟩
  · exact q.elim
theorem sim_c {v : V} {d : D} (r : ∀ R, Rep K ct.b R v d) : SimF K ct ms vp W (tC v) (mP d) := fun H0 ρ σ R H ok Q q => q v R H (Gr.refl _ _) ok (r R)
/-! operators -/
def mOp (op : D → D → Option D) (f g : M D) : M D := mB f fun x => mB g fun y => mO (op x y)
def mOpL (op : D → D → Option (List D)) (f g : M D) : M D := mB f fun x => mB g fun y => mB (mO (op x y)) fun ds => mP (.ols ds)
/-- a new list of one's own -/
theorem Ok.list (ok : Ok K ct H0 ms vp ρ σ R H) {p : Addr} {vs : List V} {ds : List D} (hp : H p = none) (r : Reps K ct.b R vs ds) : Ok K ct H0 ms vp (ρ ++ [some (.ols ds)]) (σ ++ [some (.ref p)]) R (upd H p (.lst vs)) := by
  have ex := Ext.heap (o := .lst vs) ok.same hp
  obtain ⟨s, k, iv, l, pi, F, f1, f2, f3⟩ := ok
  have h0 : H0 p = none := k.free hp
  have fr : R p = none := s.free hp
  have np : ∀ i b, F i b → b ≠ p := fun i b g z => (f3 i b g).2.1 (z ▸ hp)
  refine ⟨ex.s, k.trans ex.h, iv, by simp [l], fun i hi => ?_, fun i b => (i < ρ.length ∧ F i b) ∨ (i = ρ.length ∧ b = p), fun i e h => ?_, fun i j b ne x y => ?_, fun i b h => ?_⟩
  · have q := pi i hi
    have z : i < σ.length := (List.getElem?_eq_some_iff.mp q).1
    rw [List.getElem?_append_left z]
    exact q
  · by_cases z : i < ρ.length
    · rw [List.getElem?_append_left z] at h
      obtain ⟨u, a, b⟩ := f1 i e h
      refine ⟨u, by rw [List.getElem?_append_left (by rw [l]; exact z)]; exact a, ?_⟩
      exact (b.monoH fun c o g q => ex.h c o q).monoF fun c g => .inl ⟨z, g⟩
    · have z2 : i = ρ.length := by
        have := (List.getElem?_eq_some_iff.mp h).1
        simp at this
        omega
      subst z2
      have : D.ols ds = e := by simpa using h
      subst this
      exact ⟨.ref p, by rw [← l]; simp, .flat upd_same (.inr ⟨rfl, rfl⟩) r⟩
  · rcases x with x | x <;> rcases y with y | y
    · exact f2 i j b ne x.2 y.2
    · exact np i b x.2 y.2
    · exact np j b y.2 x.2
    · exact ne (x.1.trans y.1.symm)
  · rcases h with h | h
    · obtain ⟨a, b', c⟩ := f3 i b h.2
      exact ⟨a, fun z => b' (ex.h.free z), c⟩
    · obtain ⟨_, rfl⟩ := h
      exact ⟨fr, by rw [upd_same]; exact Option.some_ne_none _, h0⟩
/-! how pieces follow one another -/
theorem sim_op {r : R2} {op : D → D → Option D} {ta tb : TE} {f g : M D} (ho : OpF K ct.b r op) (hf : SimF K ct ms vp W ta f) (hg : SimF K ct ms vp W tb g) : SimF K ct ms vp W (tOp r ta tb) (mOp op f g) := fun H0 ρ σ R H ok Q q =>
  hf H0 ρ σ R H ok _ (Po.mono (Po.bind q) fun d ρ1 q v R1 H1 g1 ok1 r1 =>
    hg H0 ρ1 σ R1 H1 ok1 _ (Po.gr g1 (Po.bind q) fun d2 ρ2 q v2 R2 H2 g2 ok2 r2 => by
      obtain ⟨d3, e, q⟩ := Po.opt q
      exact ho R2 H2 v v2 d d2 ok2.same (r1.mono g2.1) r2 Q (by rw [e]; exact fun v3 R3 H3 x r3 => q v3 R3 H3 ((g1.trans g2).trans (ok2.gr x)) (ok2.ext x) r3)))
theorem sim_opL {r : R2} {op : D → D → Option (List D)} {ta tb : TE} {f g : M D} (ho : OpL K ct.b r op) (hf : SimF K ct ms vp W ta f) (hg : SimF K ct ms vp W tb g) : SimE K ct ms vp W (tOp r ta tb) (mOpL op f g) := fun H0 ρ σ R H ok Q q =>
  hf H0 ρ σ R H ok _ (Po.mono (Po.bind q) fun d ρ1 q v R1 H1 g1 ok1 r1 =>
    hg H0 ρ1 σ R1 H1 ok1 _ (Po.gr g1 (Po.bind q) fun d2 ρ2 q v2 R2 H2 g2 ok2 r2 => by
      obtain ⟨d3, e, q⟩ := Po.opt (Po.bind q)
      exact ho R2 H2 v v2 d d2 ok2.same (r1.mono g2.1) r2 Q (by rw [e]; exact fun p vs hp r3 => q (.ref p) R2 _ (g1.trans g2) (ok2.list hp r3) ok2.len.symm)))
def mUn (op : D → Option D) (f : M D) : M D := mB f fun x => mO (op x)
theorem sim_un {r : V → Hp → VK → Prop} {op : D → Option D} {ta : TE} {f : M D} (ho : UnF K ct.b r op) (hf : SimF K ct ms vp W ta f) : SimF K ct ms vp W (tUn r ta) (mUn op f) := fun H0 ρ σ R H ok Q q =>
  hf H0 ρ σ R H ok _ (Po.mono (Po.bind q) fun d ρ1 q v R1 H1 g1 ok1 r1 => by
    obtain ⟨d3, e, q⟩ := Po.opt q
    exact ho R1 H1 v d ok1.same r1 Q (by rw [e]; exact fun v3 R3 H3 x r3 => q v3 R3 H3 (g1.trans (ok1.gr x)) (ok1.ext x) r3))
/-! arguments -/
def mNil : M (List D) := mP []
def mCons (f : M D) (g : M (List D)) : M (List D) := mB f fun x => mB g fun xs => mP (x :: xs)
theorem sim_nil : SimA K ct ms vp W tNil mNil := fun H0 ρ σ R H ok Q q => q [] R H (Gr.refl _ _) ok .nil
theorem sim_cons {ta : TE} {tr : TA} {f : M D} {g : M (List D)} (hf : SimF K ct ms vp W ta f) (hg : SimA K ct ms vp W tr g) : SimA K ct ms vp W (tCons ta tr) (mCons f g) := fun H0 ρ σ R H ok Q q =>
  hf H0 ρ σ R H ok _ (Po.mono (Po.bind q) fun d ρ1 q v R1 H1 g1 ok1 r1 =>
    hg H0 ρ1 σ R1 H1 ok1 _ (Po.gr g1 (Po.bind q) fun ds ρ2 q vs R2 H2 g2 ok2 r2 =>
      q (v :: vs) R2 H2 (g1.trans g2) ok2 (r2.cons (r1.mono g2.1))))
def szok (n : Nat) : Option Unit := if n ≤ 100000 then some () else none
theorem szok_le {n : Nat} {u : Unit} (h : szok n = some u) : n ≤ sizeLine := by
  unfold szok at h
  split at h
  · exact Nat.le_trans ‹_› (by decide)
  · cases h
theorem szok_lt {n : Nat} {u : Unit} (h : szok n = some u) : n < sizeLine := by
  unfold szok at h
  split at h
  · exact Nat.lt_of_le_of_lt ‹_› (by decide)
  · cases h
theorem szok_of {n : Nat} (h : n ≤ 100000) : szok n = some () := if_pos h
def mLst (g : M (List D)) : M D := mB g fun ds => mB (mO (szok ds.length)) fun _ => mP (.ols ds)
theorem sim_lst {t : TA} {g : M (List D)} (hg : SimA K ct ms vp W t g) : SimE K ct ms vp W (tLst t) (mLst g) := fun H0 ρ σ R H ok Q q =>
  hg H0 ρ σ R H ok _ (Po.mono (Po.bind q) fun ds ρ1 q vs R1 H1 g1 ok1 r1 => by
    obtain ⟨u, e, q⟩ := Po.opt (Po.bind q)
    exact ⟨by rw [r1.1]; exact szok_le e, fun p hp => q (.ref p) R1 _ g1 (ok1.list hp r1) ok1.len.symm⟩)
def mTup (g : M (List D)) : M D := mB g fun ds => mB (mO (szok ds.length)) fun _ => mP (.tup ds)
theorem sim_tup {t : TA} {g : M (List D)} (hg : SimA K ct ms vp W t g) : SimF K ct ms vp W (tTup t) (mTup g) := fun H0 ρ σ R H ok Q q =>
  hg H0 ρ σ R H ok _ (Po.mono (Po.bind q) fun ds ρ1 q vs R1 H1 g1 ok1 r1 => by
    obtain ⟨u, e, q⟩ := Po.opt (Po.bind q)
    refine ⟨by rw [r1.1]; exact szok_le e, fun p hp => ?_⟩
    have x := Ext.new (o := .tup vs) ok1.same hp
    exact q (.ref p) _ _ (g1.trans (ok1.gr x)) (ok1.ext x) (.tup (.inl (.inl upd_same)) r1.1 (r1.mono x.r).2))
/-! built-in functions -/
def mCb (op : List D → Option D) (g : M (List D)) : M D := mB g fun ds => mO (op ds)
def mCbL (op : List D → Option (List D)) (g : M (List D)) : M D := mB g fun ds => mB (mO (op ds)) fun es => mP (.ols es)
theorem sim_cb {r : List V → Hp → VK → Prop} {op : List D → Option D} {t : TA} {g : M (List D)} (ho : CbF K ct.b r op) (hg : SimA K ct ms vp W t g) : SimF K ct ms vp W (tCB r t) (mCb op g) := fun H0 ρ σ R H ok Q q =>
  hg H0 ρ σ R H ok _ (Po.mono (Po.bind q) fun ds ρ1 q vs R1 H1 g1 ok1 r1 => by
    obtain ⟨d, e, q⟩ := Po.opt q
    exact ho R1 H1 vs ds ok1.same r1 Q (by rw [e]; exact fun v3 R3 H3 x r3 => q v3 R3 H3 (g1.trans (ok1.gr x)) (ok1.ext x) r3))
theorem sim_cbL {r : List V → Hp → VK → Prop} {op : List D → Option (List D)} {t : TA} {g : M (List D)} (ho : CbL K ct.b r op) (hg : SimA K ct ms vp W t g) : SimE K ct ms vp W (tCB r t) (mCbL op g) := fun H0 ρ σ R H ok Q q =>
  hg H0 ρ σ R H ok _ (Po.mono (Po.bind q) fun ds ρ1 q vs R1 H1 g1 ok1 r1 => by
    obtain ⟨d, e, q⟩ := Po.opt (Po.bind q)
    exact ho R1 H1 vs ds ok1.same r1 Q (by rw [e]; exact fun p ws hp r3 => q (.ref p) R1 _ g1 (ok1.list hp r3) ok1.len.symm))
/-! tests -/
def asB : D → Option Bool
  | .bl b => some b
  | _ => none
theorem asB_some {d : D} {b : Bool} (h : asB d = some b) : d = .bl b := by
  cases d <;> simp [asB] at h
  rw [h]
def mTest (f : M D) : M Bool := mB f fun d => mO (asB d)
theorem sim_test {t : TE} {f : M D} (hf : SimF K ct ms vp W t f) : SimT K ct ms vp W (tTest t) (mTest f) := fun H0 ρ σ R H ok Q q =>
  hf H0 ρ σ R H ok _ (Po.mono (Po.bind q) fun d ρ1 q v R1 H1 g1 ok1 r1 => by
    obtain ⟨b, e, q⟩ := Po.opt q
    cases asB_some e
    exact ⟨b, r1.bl_inv, q R1 H1 g1 ok1⟩)
theorem sim_B {t : TE} {f : M D} (hf : SimF K ct ms vp W t f) : SimT K ct ms vp W (tB t) (mTest f) := sim_test hf
def mAnd (f g : M Bool) : M Bool := mB f fun b => if b = true then g else mP false
def mOr (f g : M Bool) : M Bool := mB f fun b => if b = true then mP true else g
def mNot (f : M Bool) : M Bool := mB f fun b => mP (!b)
theorem sim_and {t u : TT} {f g : M Bool} (hf : SimT K ct ms vp W t f) (hg : SimT K ct ms vp W u g) : SimT K ct ms vp W (tAnd t u) (mAnd f g) := fun H0 ρ σ R H ok Q q =>
  hf H0 ρ σ R H ok _ (Po.mono (Po.bind q) fun b ρ1 q R1 H1 g1 ok1 => by
    cases b with
    | true => exact hg H0 ρ1 σ R1 H1 ok1 _ (Po.gr g1 q fun b ρ2 q R2 H2 g2 ok2 => q R2 H2 (g1.trans g2) ok2)
    | false => exact q R1 H1 g1 ok1)
theorem sim_or {t u : TT} {f g : M Bool} (hf : SimT K ct ms vp W t f) (hg : SimT K ct ms vp W u g) : SimT K ct ms vp W (tOr t u) (mOr f g) := fun H0 ρ σ R H ok Q q =>
  hf H0 ρ σ R H ok _ (Po.mono (Po.bind q) fun b ρ1 q R1 H1 g1 ok1 => by
    cases b with
    | false => exact hg H0 ρ1 σ R1 H1 ok1 _ (Po.gr g1 q fun b ρ2 q R2 H2 g2 ok2 => q R2 H2 (g1.trans g2) ok2)
    | true => exact q R1 H1 g1 ok1)
theorem sim_not {t : TT} {f : M Bool} (hf : SimT K ct ms vp W t f) : SimT K ct ms vp W (tNot t) (mNot f) := fun H0 ρ σ R H ok Q q =>
  hf H0 ρ σ R H ok _ (Po.mono (Po.bind q) fun b ρ1 q R1 H1 g1 ok1 => q R1 H1 g1 ok1)
def mAndV (f g : M D) : M D := mB (mTest f) fun b => if b = true then g else mP (.bl false)
def mOrV (f g : M D) : M D := mB (mTest f) fun b => if b = true then mP (.bl true) else g
def mNotV (f : M D) : M D := mB (mTest f) fun b => mP (.bl (!b))
theorem sim_andV {t u : TE} {f g : M D} (hf : SimF K ct ms vp W t f) (hg : SimF K ct ms vp W u g) : SimF K ct ms vp W (tAndV t u) (mAndV f g) := fun H0 ρ σ R H ok Q q =>
  hf H0 ρ σ R H ok _ (Po.mono (Po.bind (Po.bind q)) fun d ρ1 q v R1 H1 g1 ok1 r1 => by
    obtain ⟨b, e, q⟩ := Po.opt q
    cases asB_some e
    refine ⟨b, r1.bl_inv, ?_⟩
    cases b with
    | true => exact hg H0 ρ1 σ R1 H1 ok1 _ (Po.gr g1 q fun b ρ2 q v2 R2 H2 g2 ok2 r2 => q v2 R2 H2 (g1.trans g2) ok2 r2)
    | false => exact q (.bl false) R1 H1 g1 ok1 (.bl _))
theorem sim_orV {t u : TE} {f g : M D} (hf : SimF K ct ms vp W t f) (hg : SimF K ct ms vp W u g) : SimF K ct ms vp W (tOrV t u) (mOrV f g) := fun H0 ρ σ R H ok Q q =>
  hf H0 ρ σ R H ok _ (Po.mono (Po.bind (Po.bind q)) fun d ρ1 q v R1 H1 g1 ok1 r1 => by
    obtain ⟨b, e, q⟩ := Po.opt q
    cases asB_some e
    refine ⟨b, r1.bl_inv, ?_⟩
    cases b with
    | false => exact hg H0 ρ1 σ R1 H1 ok1 _ (Po.gr g1 q fun b ρ2 q v2 R2 H2 g2 ok2 r2 => q v2 R2 H2 (g1.trans g2) ok2 r2)
    | true => exact q (.bl true) R1 H1 g1 ok1 (.bl _))
theorem sim_notV {t : TE} {f : M D} (hf : SimF K ct ms vp W t f) : SimF K ct ms vp W (tNotV t) (mNotV f) := fun H0 ρ σ R H ok Q q =>
  hf H0 ρ σ R H ok _ (Po.mono (Po.bind (Po.bind q)) fun d ρ1 q v R1 H1 g1 ok1 r1 => by
    obtain ⟨b, e, q⟩ := Po.opt q
    cases asB_some e
    exact ⟨b, r1.bl_inv, q (.bl (!b)) R1 H1 g1 ok1 (.bl _)⟩)
def mIf {α : Type} (c : M Bool) (f g : M α) : M α := mB c fun b => if b = true then f else g
theorem sim_if {c : TT} {t u : TE} {h : M Bool} {f g : M D} (hc : SimT K ct ms vp W c h) (hf : SimF K ct ms vp W t f) (hg : SimF K ct ms vp W u g) : SimF K ct ms vp W (tIf c t u) (mIf h f g) := fun H0 ρ σ R H ok Q q =>
  hc H0 ρ σ R H ok _ (Po.mono (Po.bind q) fun b ρ1 q R1 H1 g1 ok1 => by
    cases b with
    | true => exact hf H0 ρ1 σ R1 H1 ok1 _ (Po.gr g1 q fun b ρ2 q v2 R2 H2 g2 ok2 r2 => q v2 R2 H2 (g1.trans g2) ok2 r2)
    | false => exact hg H0 ρ1 σ R1 H1 ok1 _ (Po.gr g1 q fun b ρ2 q v2 R2 H2 g2 ok2 r2 => q v2 R2 H2 (g1.trans g2) ok2 r2))
theorem sim_ifE {c : TT} {t u : TE} {h : M Bool} {f g : M D} (hc : SimT K ct ms vp W c h) (hf : SimE K ct ms vp W t f) (hg : SimE K ct ms vp W u g) : SimE K ct ms vp W (tIf c t u) (mIf h f g) := fun H0 ρ σ R H ok Q q =>
  hc H0 ρ σ R H ok _ (Po.mono (Po.bind q) fun b ρ1 q R1 H1 g1 ok1 => by
    cases b with
    | true => exact hf H0 ρ1 σ R1 H1 ok1 _ (Po.gr g1 q fun b ρ2 q v2 R2 H2 g2 ok2 r2 => q v2 R2 H2 (g1.trans g2) ok2 r2)
    | false => exact hg H0 ρ1 σ R1 H1 ok1 _ (Po.gr g1 q fun b ρ2 q v2 R2 H2 g2 ok2 r2 => q v2 R2 H2 (g1.trans g2) ok2 r2))
def mChain (op op' : D → D → Option D) (f g h : M D) : M D := mB f fun x => mB g fun y => mB (mO ((op x y).bind asB)) fun b => if b = true then mB h fun z => mO (op' y z) else mP (.bl false)
theorem sim_chain {r r' : R2} {op op' : D → D → Option D} {ta tb tc : TE} {f g h : M D} (ho : OpF K ct.b r op) (ho' : OpF K ct.b r' op') (hf : SimF K ct ms vp W ta f) (hg : SimF K ct ms vp W tb g) (hh : SimF K ct ms vp W tc h) :
    SimF K ct ms vp W (tChain r r' ta tb tc) (mChain op op' f g h) := fun H0 ρ σ R H ok Q q =>
  hf H0 ρ σ R H ok _ (Po.mono (Po.bind q) fun d ρ1 q v R1 H1 g1 ok1 r1 =>
    hg H0 ρ1 σ R1 H1 ok1 _ (Po.gr g1 (Po.bind q) fun d2 ρ2 q v2 R2 H2 g2 ok2 r2 => by
      obtain ⟨b, e, q⟩ := Po.opt (Po.bind q)
      obtain ⟨d3, e3, e4⟩ := Option.bind_eq_some_iff.mp e
      cases asB_some e4
      refine ho R2 H2 v v2 d d2 ok2.same (r1.mono g2.1) r2 _ (by
        rw [e3]
        intro v3 R3 H3 x r3
        refine ⟨b, r3.bl_inv, ?_⟩
        have g3 := (g1.trans g2).trans (ok2.gr x)
        cases b with
        | false => exact q (.bl false) R3 H3 g3 (ok2.ext x) (.bl _)
        | true =>
          refine hh H0 ρ2 σ R3 H3 (ok2.ext x) _ (Po.gr g3 (Po.bind q) fun d4 ρ4 q v4 R4 H4 g4 ok4 r4 => ?_)
          obtain ⟨d5, e5, q⟩ := Po.opt q
          exact ho' R4 H4 v2 v4 d2 d4 ok4.same ((r2.mono x.r).mono g4.1) r4 Q (by rw [e5]; exact fun v5 R5 H5 x5 r5 => q v5 R5 H5 ((g3.trans g4).trans (ok4.gr x5)) (ok4.ext x5) r5))))
end
end Y

namespace Y
open PySem PySem.Spec PyProof.Rows L2
section
variable {K : PySem.W.Frag} {ct : CT} {ms : List Nat} {W : WX} {H0 R R' H H' : Hp} {vp : Nat → V} {ρ : Env} {σ : L2.St}
theorem sql0 {a : Addr} {xs : List V} (h : H a = some (.lst xs)) : SqL K H a xs := .inl (.inl h)
/-! ### a list of one's own in a slot -/
/-- what stands behind a slot that holds a list of one's own, and how it is written -/
theorem Ok.olst (ok : Ok K ct H0 ms vp ρ σ R H) {i : Nat} {ds : List D} (h : ρ[i]? = some (some (.ols ds))) :
    ∃ a vs, σ[i]? = some (some (.ref a)) ∧ H a = some (.lst vs) ∧ vs.length = ds.length ∧ (∀ (k : Nat) (v : V) (d : D), vs[k]? = some v → ds[k]? = some d → d.isO = false → Rep K ct.b R v d) ∧
      ∀ (vs' : List V) (ds' : List D) (src : Nat → Option Nat), vs'.length = ds'.length → (∀ k j, src k = some j → vs'[k]? = vs[j]? ∧ ds'[k]? = ds[j]?) →
        (∀ (k : Nat) (v : V) (d : D), src k = none → vs'[k]? = some v → ds'[k]? = some d → Rep K ct.b R v d) → (∀ k k' j, src k = some j → src k' = some j → k = k') →
        Ok K ct H0 ms vp (ρ.set i (some (.ols ds'))) σ R (upd H a (.lst vs')) := by
  obtain ⟨s, k, iv, l, p, F, f1, f2, f3⟩ := ok
  obtain ⟨v, hv, w⟩ := f1 i _ h
  cases w with
  | fz w => cases w
  | @ols _ a vs _ G ha hF hl hc hG hd =>
    refine ⟨a, vs, hv, ha, hl, fun k v d x y z => (hc k v d x y).rep z, fun vs' ds' src e1 e2 e3 e4 => ?_⟩
    obtain ⟨ra, _, h0a⟩ := f3 i a hF
    refine ⟨fun b o q => ?_, fun b o q => ?_, iv, by simpa using l, p, F, fun j d q => ?_, f2, fun j b q => ?_⟩
    · rw [upd_ne (ne_of_none q ra)]; exact s b o q
    · rw [upd_ne (ne_of_none q h0a)]; exact k b o q
    · by_cases z : j = i
      · subst z
        have hj : j < ρ.length := (List.getElem?_eq_some_iff.mp h).1
        rw [List.getElem?_set_self hj] at q
        cases q
        refine ⟨.ref a, hv, .ols (fun n b => ∃ m, src n = some m ∧ G m b) upd_same hF e1 (fun n v d x y => ?_) (fun n b ⟨m, _, g⟩ => hG m b g) fun n m b ne ⟨n', e, g⟩ ⟨m', e', g'⟩ => ?_⟩
        · cases q : src n with
          | none => exact .fz (e3 n v d q x y)
          | some m =>
            obtain ⟨t1, t2⟩ := e2 n m q
            refine ((hc m v d (t1 ▸ x) (t2 ▸ y)).monoH fun b o g q' => ?_).monoF fun b g => ⟨m, rfl, g⟩
            rw [upd_ne (hG m b g).2]
            exact q'
        · by_cases z : n' = m'
          · subst z; exact ne (e4 n m n' e e')
          · exact hd n' m' b z g g'
      · rw [List.getElem?_set_ne (Ne.symm z)] at q
        obtain ⟨u, x, y⟩ := f1 j d q
        refine ⟨u, x, y.monoH fun b o g q' => ?_⟩
        rw [upd_ne fun e => f2 j i b z g (by rw [e]; exact hF)]
        exact q'
    · obtain ⟨x, y, z⟩ := f3 j b q
      refine ⟨x, ?_, z⟩
      by_cases e : b = a
      · rw [e, upd_same]; exact Option.some_ne_none _
      · rw [upd_ne e]; exact y
theorem Ok.extL (ok : Ok K ct H0 ms vp ρ σ R H) {i : Nat} {ds : List D} (h : ρ[i]? = some (some (.ols ds))) :
    ∃ a vs, σ[i]? = some (some (.ref a)) ∧ H a = some (.lst vs) ∧ vs.length = ds.length ∧ ∀ (ws : List V) (es : List D), Reps K ct.b R ws es →
        Ok K ct H0 ms vp (ρ.set i (some (.ols (ds ++ es)))) σ R (upd H a (.lst (vs ++ ws))) := by
  obtain ⟨a, vs, x, y, l, _, put⟩ := ok.olst h
  refine ⟨a, vs, x, y, l, fun ws es r => put _ _ (fun k => if k < vs.length then some k else none) (by simp [l, r.1]) (fun k j e => ?_) (fun k v d e e1 e2 => ?_) fun k k' j e e' => ?_⟩
  · split at e
    · cases e
      exact ⟨List.getElem?_append_left (by assumption), List.getElem?_append_left (by omega)⟩
    · cases e
  · split at e
    · cases e
    · rw [List.getElem?_append_right (by omega)] at e1
      rw [List.getElem?_append_right (by omega), ← l] at e2
      exact r.2 _ v d e1 e2
  · split at e <;> split at e' <;> cases e <;> cases e'
    rfl
theorem Ok.setL (ok : Ok K ct H0 ms vp ρ σ R H) {i : Nat} {ds : List D} (h : ρ[i]? = some (some (.ols ds))) :
    ∃ a vs, σ[i]? = some (some (.ref a)) ∧ H a = some (.lst vs) ∧ vs.length = ds.length ∧ ∀ (n : Nat) (w : V) (e : D), Rep K ct.b R w e →
        Ok K ct H0 ms vp (ρ.set i (some (.ols (ds.set n e)))) σ R (upd H a (.lst (vs.set n w))) := by
  obtain ⟨a, vs, x, y, l, _, put⟩ := ok.olst h
  refine ⟨a, vs, x, y, l, fun n w e r => put _ _ (fun k => if k = n then none else some k) (by simp [l]) (fun k j q => ?_) (fun k v d q e1 e2 => ?_) fun k k' j q q' => ?_⟩
  · split at q
    · cases q
    · cases q
      exact ⟨List.getElem?_set_ne (by omega), List.getElem?_set_ne (by omega)⟩
  · split at q
    · rename_i hk
      subst hk
      rw [List.getElem?_set] at e1 e2
      simp only [if_true] at e1 e2
      split at e1
      · split at e2
        · cases e1; cases e2; exact r
        · cases e2
      · cases e1
    · cases q
  · split at q <;> split at q' <;> cases q <;> cases q'
    rfl
theorem Ok.subL (ok : Ok K ct H0 ms vp ρ σ R H) {i : Nat} {ds : List D} (h : ρ[i]? = some (some (.ols ds))) :
    ∃ a vs, σ[i]? = some (some (.ref a)) ∧ H a = some (.lst vs) ∧ vs.length = ds.length ∧ (∀ (k : Nat) (v : V) (d : D), vs[k]? = some v → ds[k]? = some d → d.isO = false → Rep K ct.b R v d) ∧ (∀ n : Nat,
        Ok K ct H0 ms vp (ρ.set i (some (.ols (ds.take n)))) σ R (upd H a (.lst (vs.take n)))) ∧ ∀ n : Nat, Ok K ct H0 ms vp (ρ.set i (some (.ols (ds.eraseIdx n)))) σ R (upd H a (.lst (vs.eraseIdx n))) := by
  obtain ⟨a, vs, x, y, l, rd, put⟩ := ok.olst h
  refine ⟨a, vs, x, y, l, rd, fun n => put _ _ (fun k => if k < n then some k else none) (by simp [l]) (fun k j q => ?_) (fun k v d q e1 e2 => ?_) (fun k k' j q q' => ?_), fun n => put _ _ (fun k => if k < n then some k else some (k + 1)) (by simp [List.length_eraseIdx, l]) (fun k j q => ?_) (fun k v d q e1 e2 => ?_) fun k k' j q q' => ?_⟩
  · split at q
    · cases q
      rw [List.getElem?_take_of_lt (by assumption), List.getElem?_take_of_lt (by assumption)]
      exact ⟨rfl, rfl⟩
    · cases q
  · split at q
    · cases q
    · rw [List.getElem?_take, if_neg (by assumption)] at e1
      cases e1
  · split at q <;> split at q' <;> cases q <;> cases q'
    rfl
  · split at q
    · cases q
      rw [List.getElem?_eraseIdx_of_lt (by assumption), List.getElem?_eraseIdx_of_lt (by assumption)]
      exact ⟨rfl, rfl⟩
    · cases q
      rw [List.getElem?_eraseIdx_of_ge (by omega), List.getElem?_eraseIdx_of_ge (by omega)]
      exact ⟨rfl, rfl⟩
  · split at q <;> cases q
  · split at q <;> split at q' <;> cases q <;> cases q' <;> omega
/-- a slot that holds a list or a tuple, seen -/
theorem Ok.seq (ok : Ok K ct H0 ms vp ρ σ R H) {i : Nat} {d : D} {ds : List D} (h : ρ[i]? = some (some d)) (e : d = .ols ds ∨ d = .lst ds) :
    ∃ a vs, σ[i]? = some (some (.ref a)) ∧ H a = some (.lst vs) ∧ vs.length = ds.length ∧ ∀ (k : Nat) (v : V) (d : D), vs[k]? = some v → ds[k]? = some d → d.isO = false → Rep K ct.b R v d := by
  rcases e with rfl | rfl
  · obtain ⟨a, vs, x, y, l, rd, _⟩ := ok.olst h
    exact ⟨a, vs, x, y, l, rd⟩
  · obtain ⟨v, a, r⟩ := ok.slot h rfl
    obtain ⟨p, vs, rfl, q, z⟩ := r.lst_inv
    exact ⟨p, vs, a, ok.same _ _ q, z.1, fun k v d x y _ => z.2 k v d x y⟩
theorem Ok.tupS (ok : Ok K ct H0 ms vp ρ σ R H) {i : Nat} {ds : List D} (h : ρ[i]? = some (some (.tup ds)) ∨ ρ[i]? = some (some (.tpx ds))) :
    ∃ a vs, σ[i]? = some (some (.ref a)) ∧ SqT K H a vs ∧ Reps K ct.b R vs ds := by
  obtain ⟨v, a, r⟩ : ∃ v, σ[i]? = some (some v) ∧ Rep K ct.b R v (.tup ds) := by
    rcases h with h | h
    · exact ok.slot h rfl
    · obtain ⟨v, a, r⟩ := ok.slot h rfl
      exact ⟨v, a, r.tpx_tup⟩
  obtain ⟨p, vs, rfl, q, z⟩ := r.tup_inv
  exact ⟨p, vs, a, SqT.mono ok.same q, z⟩
def seqOf : Option (Option D) → Option (List D)
  | some (some (.ols ds)) => some ds
  | some (some (.lst ds)) => some ds
  | _ => none
def tupOf : Option (Option D) → Option (List D)
  | some (some (.tup ds)) => some ds
  | some (some (.tpx ds)) => some ds
  | _ => none
def olsOf : Option (Option D) → Option (List D)
  | some (some (.ols ds)) => some ds
  | _ => none
theorem seqOf_some {x : Option (Option D)} {ds : List D} (h : seqOf x = some ds) : ∃ d, x = some (some d) ∧ (d = .ols ds ∨ d = .lst ds) := by
  unfold seqOf at h
  split at h <;> cases h
  · exact ⟨_, rfl, .inl rfl⟩
  · exact ⟨_, rfl, .inr rfl⟩
theorem tupOf_some {x : Option (Option D)} {ds : List D} (h : tupOf x = some ds) : x = some (some (.tup ds)) ∨ x = some (some (.tpx ds)) := by
  unfold tupOf at h
  split at h <;> cases h
  · exact .inl rfl
  · exact .inr rfl
theorem olsOf_some {x : Option (Option D)} {ds : List D} (h : olsOf x = some ds) : x = some (some (.ols ds)) := by
  unfold olsOf at h
  split at h <;> cases h
  rfl
/-- the slots, looked at -/
def mGet (f : Env → Option α) : M α := fun ρ => match f ρ with
  | some a => .ok a ρ
  | none => .st
theorem Po.get {α : Type} {Post : α → Env → Prop} {f : Env → Option α} (h : Po K ct ms vp W H0 σ R Post (mGet f ρ)) : ∃ a, f ρ = some a ∧ Post a ρ := by
  unfold mGet at h
  cases e : f ρ with
  | none => rw [e] at h; exact h.elim
  | some a => rw [e] at h; exact ⟨a, rfl, h⟩
def mPut (i : Nat) (d : D) : M Unit := fun ρ => .ok () (ρ.set i (some d))
theorem Po.put {α : Type} {Post : α → Env → Prop} {i : Nat} {d : D} {g : Unit → M α} (h : Po K ct ms vp W H0 σ R Post (mB (mPut i d) g ρ)) : Po K ct ms vp W H0 σ R Post (g () (ρ.set i (some d))) := h
/-! methods of a list in a slot -/
/-- a list of one's own of what is never written -/
def flatO : D → Option (List D)
  | .ols xs => if xs.any D.isO = true then none else some xs
  | .lst xs => some xs
  | _ => none
def mAppend (i : Nat) (g : M (List D)) : M D := mB (mGet fun ρ => olsOf ρ[i]?) fun _ => mB g fun xs => mB (mGet fun ρ => olsOf ρ[i]?) fun ds => match xs with
  | [x] => mB (mO (szok ds.length)) fun _ => mB (mPut i (.ols (ds ++ [x]))) fun _ => mP .non
  | _ => fun _ => .st
theorem sim_append {i : Nat} {t : TA} {g : M (List D)} (hg : SimA K ct ms vp W t g) : SimF K ct ms vp W (tBM K "list" rAppend (tVar i) t) (mAppend i g) := fun H0 ρ σ R H ok Q q => by
  obtain ⟨ds, e, q⟩ := Po.get (Po.bind q)
  obtain ⟨a, vs, x, y, l, _⟩ := ok.olst (olsOf_some e)
  refine ⟨.ref a, x, .inl ⟨rfl, _, .inl (.inl y)⟩, hg H0 ρ σ R H ok _ (Po.mono (Po.bind q) fun xs ρ1 q ws R1 H1 g1 ok1 r1 => ?_)⟩
  obtain ⟨ds1, e1, q⟩ := Po.get (Po.bind q)
  obtain ⟨a1, vs1, x1, y1, l1, put⟩ := ok1.extL (olsOf_some e1)
  cases x.symm.trans x1
  match xs, q, r1 with
  | [x], q, r1 =>
    obtain ⟨w, ws', rfl, r, rn⟩ := r1.cons_inv
    cases rn.nil_inv
    obtain ⟨u, z, q⟩ := Po.opt (Po.bind q)
    have q := Po.put q
    exact ⟨a, vs1, w, rfl, rfl, y1, by rw [l1]; exact szok_lt z, q .non R1 _ g1 (put [w] [x] (Reps.nil.cons r)) .non⟩
  | [], q, _ => exact q.elim
  | _ :: _ :: _, q, _ => exact q.elim
def mExtend (i : Nat) (g : M D) : M D := mB (mGet fun ρ => olsOf ρ[i]?) fun _ => mB g fun x => mB (mGet fun ρ => olsOf ρ[i]?) fun ds => mB (mO (flatO x)) fun xs => mB (mO (szok (ds.length + xs.length))) fun _ => mB (mPut i (.ols (ds ++ xs))) fun _ => mP .non
/-! pop -/
def mPop (i : Nat) : M D := mB (mGet fun ρ => olsOf ρ[i]?) fun ds => match ds.getLast? with
  | some d => if d.isO = true then fun _ => .st else mB (mPut i (.ols ds.dropLast)) fun _ => mP d
  | none => fun _ => .st
theorem sim_pop {i : Nat} : SimF K ct ms vp W (tBM0 K "list" rPop (tVar i)) (mPop i) := fun H0 ρ σ R H ok Q q => by
  obtain ⟨ds, e, q⟩ := Po.get (Po.bind q)
  obtain ⟨a, vs, x, y, l, rd, put, _⟩ := ok.subL (olsOf_some e)
  refine ⟨.ref a, x, .inl ⟨rfl, _, .inl (.inl y)⟩, ?_⟩
  cases e2 : ds.getLast? with
  | none => rw [e2] at q; exact q.elim
  | some d =>
    rw [e2] at q
    dsimp only at q
    by_cases o : d.isO = true
    · rw [if_pos o] at q; exact q.elim
    · rw [if_neg o] at q
      have q := Po.put q
      have hd : ds[ds.length - 1]? = some d := by rw [← List.getLast?_eq_getElem?]; exact e2
      have h0 : 0 < ds.length := by
        have := (List.getElem?_eq_some_iff.mp hd).1
        omega
      have hv : vs.length - 1 < vs.length := by omega
      refine ⟨a, vs, vs[vs.length - 1], rfl, rfl, y, List.getElem?_eq_getElem hv, ?_⟩
      have r := rd (ds.length - 1) vs[vs.length - 1] d (by rw [← l]; exact List.getElem?_eq_getElem hv) hd (by simpa using o)
      have p := put (ds.length - 1)
      rw [← List.dropLast_eq_take, ← l, ← List.dropLast_eq_take] at p
      exact q _ R _ (Gr.refl _ _) p r
def popD (ds : List D) : List D → Option (Nat × D)
  | [.int n] => if 0 ≤ n ∧ n < 100000 then (ds[n.toNat]?).bind fun d => if d.isO = true then none else some (n.toNat, d) else none
  | _ => none
theorem popD_some {ds xs : List D} {k : Nat} {d : D} (h : popD ds xs = some (k, d)) : xs = [.int k] ∧ k < 100000 ∧ ds[k]? = some d ∧ d.isO = false := by
  unfold popD at h
  split at h
  · rename_i n
    split at h
    · rename_i hn
      obtain ⟨d', e1, e2⟩ := Option.bind_eq_some_iff.mp h
      split at e2
      · cases e2
      · rename_i ho
        cases e2
        exact ⟨by rw [Int.toNat_of_nonneg hn.1], by omega, e1, by simpa using ho⟩
    · cases h
  · cases h
def mPopAt (i : Nat) (g : M (List D)) : M D := mB (mGet fun ρ => olsOf ρ[i]?) fun _ => mB g fun xs => mB (mGet fun ρ => olsOf ρ[i]?) fun ds => mB (mO (popD ds xs)) fun z => mB (mPut i (.ols (ds.eraseIdx z.1))) fun _ => mP z.2
/-! items, lengths of what a slot holds -/
def mLenV (i : Nat) : M D := mB (mGet fun ρ => (seqOf ρ[i]?).orElse fun _ => tupOf ρ[i]?) fun ds => mP (.int ds.length)
theorem sim_lenV {i : Nat} : SimF K ct ms vp W (tCB (fun (xs : List V) (H : Hp) (Q : VK) => ∃ p ys, xs = [.ref p] ∧ (SqL K H p ys ∨ SqT K H p ys) ∧ Q (.int ys.length) H) (tCons (tVar i) tNil)) (mLenV i) := fun H0 ρ σ R H ok Q q => by
  obtain ⟨ds, e, q⟩ := Po.get (Po.bind q)
  have q := q
  cases e1 : seqOf ρ[i]? with
  | some es =>
    rw [e1] at e
    cases e
    obtain ⟨d, e2, e3⟩ := seqOf_some e1
    obtain ⟨a, vs, x, y, l, _⟩ := ok.seq e2 e3
    exact ⟨.ref a, x, a, vs, rfl, .inl (sql0 y), q (.int vs.length) R H (Gr.refl _ _) ok (by rw [l]; exact .int _)⟩
  | none =>
    rw [e1] at e
    obtain ⟨a, vs, x, y, r⟩ := ok.tupS (tupOf_some e)
    exact ⟨.ref a, x, a, vs, rfl, .inr y, q (.int vs.length) R H (Gr.refl _ _) ok (by rw [r.1]; exact .int _)⟩
def ixD (ds : List D) : D → Option D
  | .int i => match atI ds i with
    | some d => if d.isO = true then none else some d
    | none => none
  | _ => none
theorem atI_len {α β : Type} {xs : List α} {ys : List β} {i : Int} {y : β} (l : xs.length = ys.length) (h : atI ys i = some y) : ∃ (j : Nat) (x : α), ixN xs.length i = some j ∧ xs[j]? = some x ∧ ys[j]? = some y ∧ atI xs i = some x := by
  unfold atI at h
  obtain ⟨j, e1, e2⟩ := Option.bind_eq_some_iff.mp h
  have hj : j < ys.length := (List.getElem?_eq_some_iff.mp e2).1
  have hx : j < xs.length := by omega
  refine ⟨j, xs[j], by rw [l]; exact e1, List.getElem?_eq_getElem hx, e2, ?_⟩
  unfold atI
  rw [l, e1]
  exact List.getElem?_eq_getElem hx
theorem ixD_some {ds : List D} {x d : D} (h : ixD ds x = some d) : ∃ i, x = .int i ∧ atI ds i = some d ∧ d.isO = false := by
  cases x with
  | int i =>
    refine ⟨i, rfl, ?_⟩
    unfold ixD at h
    dsimp only at h
    cases e : atI ds i with
    | none => rw [e] at h; cases h
    | some d' =>
      rw [e] at h
      dsimp only at h
      split at h
      · cases h
      · rename_i hn
        cases h
        exact ⟨rfl, by simpa using hn⟩
  | _ => simp [ixD] at h
def mIxV (i : Nat) (g : M D) : M D := mB (mGet fun ρ => seqOf ρ[i]?) fun _ => mB g fun x => mB (mGet fun ρ => seqOf ρ[i]?) fun ds => mO (ixD ds x)
theorem sim_ixV {i : Nat} {tb : TE} {g : M D} (hg : SimF K ct ms vp W tb g) : SimF K ct ms vp W (tOp (rIxL K) (tVar i) tb) (mIxV i g) := fun H0 ρ σ R H ok Q q => by
  obtain ⟨ds0, e0, q⟩ := Po.get (Po.bind q)
  obtain ⟨d0, e2, e3⟩ := seqOf_some e0
  obtain ⟨a0, vs0, x0, _⟩ := ok.seq e2 e3
  refine ⟨.ref a0, x0, hg H0 ρ σ R H ok _ (Po.mono (Po.bind q) fun d ρ1 q w R1 H1 g1 ok1 r1 => ?_)⟩
  obtain ⟨ds, e, q⟩ := Po.get (Po.bind q)
  obtain ⟨d', e2, e3⟩ := seqOf_some e
  obtain ⟨a, vs, x, y, l, rd⟩ := ok1.seq e2 e3
  cases x0.symm.trans x
  obtain ⟨d3, e4, q⟩ := Po.opt q
  obtain ⟨n, e5, h1, h2⟩ := ixD_some e4
  rw [e5] at r1
  obtain ⟨j, u, _, k1, k2, k3⟩ := atI_len (xs := vs) l h1
  exact ⟨a0, vs, n, u, rfl, r1.int_inv, sql0 y, k3, q u R1 H1 g1 ok1 (rd j u d3 k1 k2 h2)⟩
def mIxVT (i : Nat) (g : M D) : M D := mB (mGet fun ρ => tupOf ρ[i]?) fun _ => mB g fun x => mB (mGet fun ρ => tupOf ρ[i]?) fun ds => mO (ixD ds x)
theorem sim_ixVT {i : Nat} {tb : TE} {g : M D} (hg : SimF K ct ms vp W tb g) : SimF K ct ms vp W (tOp (rIxT K) (tVar i) tb) (mIxVT i g) := fun H0 ρ σ R H ok Q q => by
  obtain ⟨ds0, e0, q⟩ := Po.get (Po.bind q)
  obtain ⟨a0, vs0, x0, _⟩ := ok.tupS (tupOf_some e0)
  refine ⟨.ref a0, x0, hg H0 ρ σ R H ok _ (Po.mono (Po.bind q) fun d ρ1 q w R1 H1 g1 ok1 r1 => ?_)⟩
  obtain ⟨ds, e, q⟩ := Po.get (Po.bind q)
  obtain ⟨a, vs, x, y, rd⟩ := ok1.tupS (tupOf_some e)
  cases x0.symm.trans x
  obtain ⟨d3, e4, q⟩ := Po.opt q
  obtain ⟨n, e5, h1, h2⟩ := ixD_some e4
  rw [e5] at r1
  obtain ⟨j, u, _, k1, k2, k3⟩ := atI_len (xs := vs) rd.1 h1
  exact ⟨a0, vs, n, u, rfl, r1.int_inv, y, k3, q u R1 H1 g1 ok1 (rd.2 j u d3 k1 k2)⟩
/-! extend, pop(i) -/
theorem flatO_some {d : D} {xs : List D} (h : flatO d = some xs) : (d = .ols xs ∧ ∀ x ∈ xs, x.isO = false) ∨ d = .lst xs := by
  unfold flatO at h
  split at h
  · split at h
    · cases h
    · rename_i n
      cases h
      exact .inl ⟨rfl, fun x hx => by
        cases e : x.isO with
        | false => rfl
        | true => exact absurd (List.any_eq_true.mpr ⟨x, hx, e⟩) n⟩
  · cases h; exact .inr rfl
  · cases h
/-- the value at the end is a flat list -/
theorem Ok.flatE {v : V} {d : D} {xs : List D} (ok : Ok K ct H0 ms vp (ρ ++ [some d]) (σ ++ [some v]) R H) (l : ρ.length = σ.length) (h : flatO d = some xs) : ∃ b ws, v = .ref b ∧ H b = some (.lst ws) ∧ Reps K ct.b R ws xs := by
  rcases flatO_some h with ⟨rfl, no⟩ | rfl
  · obtain ⟨b, ws, x, y, l', rd, _⟩ := ok.olst (i := ρ.length) (ds := xs) (by simp)
    refine ⟨b, ws, ?_, y, l', fun k u e p q => rd k u e p q (no e (List.mem_of_getElem? q))⟩
    rw [l] at x
    simpa using x
  · obtain ⟨u, x, r⟩ := ok.slot (i := ρ.length) (d := .lst xs) (by simp) rfl
    have e : u = v := by
      rw [l] at x
      simpa using x.symm
    subst e
    obtain ⟨b, ws, rfl, y, rr⟩ := r.lst_inv
    exact ⟨b, ws, rfl, ok.same _ _ y, rr⟩
theorem sim_extend {i : Nat} {te : TE} {g : M D} (hg : SimE K ct ms vp W te g) : SimF K ct ms vp W (tBM K "list" rExtend (tVar i) (tCons te tNil)) (mExtend i g) := fun H0 ρ σ R H ok Q q => by
  obtain ⟨ds, e, q⟩ := Po.get (Po.bind q)
  obtain ⟨a, vs, x, y, l, _⟩ := ok.olst (olsOf_some e)
  refine ⟨.ref a, x, .inl ⟨rfl, _, .inl (.inl y)⟩, hg H0 ρ σ R H ok _ (Po.mono (Po.bind q) fun dx ρ1 q v R1 H1 g1 ok1 l1 => ?_)⟩
  obtain ⟨ds1, e1, q⟩ := Po.get (Po.bind q)
  obtain ⟨xs, e2, q⟩ := Po.opt (Po.bind q)
  obtain ⟨u, z, q⟩ := Po.opt (Po.bind q)
  have q := Po.put q
  obtain ⟨b, ws, rfl, yb, rw'⟩ := ok1.flatE l1 e2
  have ok3 := ok1.pop l1 ok.mslt
  obtain ⟨a1, vs1, x1, y1, ll, put⟩ := ok3.extL (olsOf_some e1)
  cases x.symm.trans x1
  exact ⟨a, b, vs1, ws, rfl, rfl, y1, yb, by rw [ll, rw'.1]; exact szok_le z, q .non R1 _ g1 (put ws xs rw') .non⟩
theorem sim_popAt {i : Nat} {t : TA} {g : M (List D)} (hg : SimA K ct ms vp W t g) : SimF K ct ms vp W (tBM K "list" rPopAt (tVar i) t) (mPopAt i g) := fun H0 ρ σ R H ok Q q => by
  obtain ⟨ds0, e0, q⟩ := Po.get (Po.bind q)
  obtain ⟨a, vs, x, y, l, _⟩ := ok.olst (olsOf_some e0)
  refine ⟨.ref a, x, .inl ⟨rfl, _, .inl (.inl y)⟩, hg H0 ρ σ R H ok _ (Po.mono (Po.bind q) fun xs ρ1 q ws R1 H1 g1 ok1 r1 => ?_)⟩
  obtain ⟨ds, e1, q⟩ := Po.get (Po.bind q)
  obtain ⟨a1, vs1, x1, y1, l1, rd, _, put⟩ := ok1.subL (olsOf_some e1)
  cases x.symm.trans x1
  obtain ⟨⟨k, d⟩, e2, q⟩ := Po.opt (Po.bind q)
  have q := Po.put q
  obtain ⟨exs, k1, hd, ho⟩ := popD_some e2
  rw [exs] at r1
  obtain ⟨w, ws', rfl, r, rn⟩ := r1.cons_inv
  cases rn.nil_inv
  cases r.int_inv
  have hj : k < ds.length := (List.getElem?_eq_some_iff.mp hd).1
  have hv : k < vs1.length := by omega
  obtain ⟨u, hu⟩ : ∃ u, vs1[k]? = some u := ⟨_, List.getElem?_eq_getElem hv⟩
  have fin : Q u (upd H1 a (.lst (vs1.eraseIdx k))) := by
    have r := rd k u d hu hd ho
    have p := put k
    clear put rd
    exact q u R1 _ g1 p r
  refine ⟨a, vs1, (k : Int), k, u, rfl, rfl, y1, Int.le_trans (by decide) (Int.natCast_nonneg k), (by simp only [Int.reducePow]; omega), ?_, hu, fin⟩
  · have h2 : ¬ (k : Int) < 0 := by omega
    have h3 : (k : Int) < (vs1.length : Int) := by omega
    simp [seqIndex?, h2, h3]
end
end Y

namespace Y
open PySem PySem.Spec PyProof.Rows L2
section
variable {K : PySem.W.Frag} {ct : CT} {ms : List Nat} {W : WX} {H0 R R' H H' : Hp} {vp : Nat → V} {ρ : Env} {σ : L2.St}
/-- other slots, of those that were -/
theorem Ok.sel (ok : Ok K ct H0 ms vp ρ σ R H) {ms' : List Nat} {vp' : Nat → V} {ρ' : Env} {σ' : L2.St} (src : Nat → Nat) (l : σ'.length = ρ'.length) (p : ∀ i ∈ ms', σ'[i]? = some (some (vp' i)))
    (h : ∀ k d, ρ'[k]? = some (some d) → ρ[src k]? = some (some d) ∧ σ'[k]? = σ[src k]?) (inj : ∀ k k', k < ρ'.length → k' < ρ'.length → src k = src k' → k = k') : Ok K ct H0 ms' vp' ρ' σ' R H := by
  obtain ⟨s, k, iv, _, _, F, f1, f2, f3⟩ := ok
  refine ⟨s, k, iv, l, p, fun j b => j < ρ'.length ∧ F (src j) b, fun j d q => ?_, fun i j b ne x y => ?_, fun j b q => f3 _ b q.2⟩
  · obtain ⟨a, e⟩ := h j d q
    obtain ⟨v, x, y⟩ := f1 _ d a
    exact ⟨v, e.trans x, y.monoF fun b g => ⟨(List.getElem?_eq_some_iff.mp q).1, g⟩⟩
  · exact f2 _ _ b (fun e => ne (inj i j x.1 y.1 e)) x.2 y.2
/-- the value at the end goes into a slot -/
theorem Ok.store {v : V} {d : D} {i : Nat} (ok : Ok K ct H0 ms vp (ρ ++ [some d]) (σ ++ [some v]) R H) (l : ρ.length = σ.length) (hm : ∀ i ∈ ms, i < σ.length) (hi : i ∉ ms) : Ok K ct H0 ms vp (ρ.set i (some d)) (σ.set i (some v)) R H := by
  refine ok.sel (fun k => if k = i then ρ.length else k) (by simp [l]) (fun j hj => ?_) (fun k e h => ?_) (fun k k' hk hk' e => ?_)
  · have q := ok.pins j hj
    rw [List.getElem?_append_left (hm j hj)] at q
    rw [List.getElem?_set_ne (fun z => hi (by rw [z]; exact hj))]
    exact q
  · by_cases z : k = i
    · subst z
      have hk : k < ρ.length := by
        have := (List.getElem?_eq_some_iff.mp h).1
        simpa using this
      rw [List.getElem?_set_self hk] at h
      cases h
      rw [List.getElem?_set_self (by omega)]
      simp [l]
    · have hk : k < ρ.length := by
        have := (List.getElem?_eq_some_iff.mp h).1
        simpa using this
      rw [List.getElem?_set_ne (Ne.symm z)] at h
      rw [if_neg z, List.getElem?_append_left hk, List.getElem?_append_left (by omega), List.getElem?_set_ne (Ne.symm z)]
      exact ⟨h, rfl⟩
  · rw [List.length_set] at hk hk'
    split at e <;> split at e <;> omega
theorem Ok.setR {v : V} {d : D} {i : Nat} (ok : Ok K ct H0 ms vp ρ σ R H) (r : Rep K ct.b R v d) (hi : i ∉ ms) : Ok K ct H0 ms vp (ρ.set i (some d)) (σ.set i (some v)) R H :=
  (ok.temp r).store ok.len.symm ok.mslt hi
/-! ### statements -/
def mNext : Stm := fun ρ => .nx ρ
theorem sim_next : SimS K ct ms vp W tNext mNext := fun H0 ρ σ R H ok D' q => q σ R H (Gr.refl _ _) ok
def mSeq (f g : Stm) : Stm := fun ρ => match f ρ with
  | .nx ρ1 => g ρ1
  | .rt d ρ1 => .rt d ρ1 | .bk ρ1 => .bk ρ1 | .ct ρ1 => .ct ρ1 | .ex c x ρ1 => .ex c x ρ1 | .st => .st
theorem sim_seq {t u : TS} {f g : Stm} (hf : SimS K ct ms vp W t f) (hg : SimS K ct ms vp W u g) : SimS K ct ms vp W (tSeq t u) (mSeq f g) := fun H0 ρ σ R H ok D' q => by
  refine hf H0 ρ σ R H ok _ ?_
  unfold mSeq at q
  cases e : f ρ with
  | nx ρ1 => rw [e] at q; exact fun σ1 R1 H1 g1 ok1 => hg H0 ρ1 σ1 R1 H1 ok1 D' (PoS.gr g1 q)
  | rt d ρ1 => rw [e] at q; exact q
  | bk ρ1 => rw [e] at q; exact q
  | ct ρ1 => rw [e] at q; exact q
  | ex c x ρ1 => rw [e] at q; exact q
  | st => rw [e] at q; exact q
/-- a value, then what follows -/
def mThen {α : Type} (f : M α) (g : α → Stm) : Stm := fun ρ => match f ρ with
  | .ok a ρ1 => g a ρ1
  | .ex c x ρ1 => .ex c x ρ1
  | .st => .st
theorem PoS.bind {α : Type} {f : M α} {g : α → Stm} {D' : Ends} (h : PoS K ct ms vp W H0 R D' (mThen f g ρ)) : Po K ct ms vp W H0 σ R (fun a ρ1 => PoS K ct ms vp W H0 R D' (g a ρ1)) (f ρ) := by
  unfold mThen at h
  cases e : f ρ with
  | ok a ρ1 => rw [e] at h; exact h
  | ex c x ρ1 => rw [e] at h; exact fun od R2 H2 g2 o l => h od σ R2 H2 g2 o l
  | st => rw [e] at h; exact h
def mSet (i : Nat) (f : M D) : Stm := mThen f fun d ρ => .nx (ρ.set i (some d))
theorem sim_set {i : Nat} {t : TE} {f : M D} (hf : SimE K ct ms vp W t f) (hi : i ∉ ms) : SimS K ct ms vp W (tAsg t (gName i)) (mSet i f) := fun H0 ρ σ R H ok D' q =>
  hf H0 ρ σ R H ok _ (Po.mono (PoS.bind q) fun d ρ1 q v R1 H1 g1 ok1 l => q _ R1 H1 g1 (ok1.store l ok.mslt hi))
def mRet (f : M D) : Stm := mThen f fun d ρ => .rt d ρ
theorem sim_ret {t : TE} {f : M D} (hf : SimE K ct ms vp W t f) : SimS K ct ms vp W (tRet t) (mRet f) := fun H0 ρ σ R H ok D' q =>
  hf H0 ρ σ R H ok _ (Po.mono (PoS.bind q) fun d ρ1 q v R1 H1 g1 ok1 l => q v σ R1 H1 g1 ok1 l)
def mRetN : Stm := fun ρ => .rt .non ρ
theorem sim_retN : SimS K ct ms vp W tRetN mRetN := fun H0 ρ σ R H ok D' q => q .non σ R H (Gr.refl _ _) (ok.temp .non) ok.len.symm
def mDrop (f : M D) : Stm := mThen f fun _ ρ => .nx ρ
theorem sim_drop {t : TE} {f : M D} (hf : SimF K ct ms vp W t f) : SimS K ct ms vp W (tDrop t) (mDrop f) := fun H0 ρ σ R H ok D' q =>
  hf H0 ρ σ R H ok _ (Po.mono (PoS.bind q) fun d ρ1 q v R1 H1 g1 ok1 l => q σ R1 H1 g1 ok1)
def mIfS (c : M Bool) (f g : Stm) : Stm := mThen c fun b => if b = true then f else g
theorem sim_ifS {c : TT} {t u : TS} {h : M Bool} {f g : Stm} (hc : SimT K ct ms vp W c h) (hf : SimS K ct ms vp W t f) (hg : SimS K ct ms vp W u g) : SimS K ct ms vp W (tIfS c t u) (mIfS h f g) := fun H0 ρ σ R H ok D' q =>
  hc H0 ρ σ R H ok _ (Po.mono (PoS.bind q) fun b ρ1 q R1 H1 g1 ok1 => by
    cases b with
    | true => exact hf H0 ρ1 σ R1 H1 ok1 _ (PoS.gr g1 q)
    | false => exact hg H0 ρ1 σ R1 H1 ok1 _ (PoS.gr g1 q))
def mNever : Stm := fun _ => .st
theorem sim_never : SimS K ct ms vp W tNever mNever := fun _ _ _ _ _ _ _ q => q.elim
def mBrk : Stm := fun ρ => .bk ρ
def mCnt : Stm := fun ρ => .ct ρ
theorem sim_brk : SimS K ct ms vp W tBreak mBrk := fun H0 ρ σ R H ok D' q => q σ R H (Gr.refl _ _) ok
theorem sim_cnt : SimS K ct ms vp W tCont mCnt := fun H0 ρ σ R H ok D' q => q σ R H (Gr.refl _ _) ok
/-! ### targets -/
theorem wipe_set (x : Option V) (i : Nat) (σ : L2.St) : ∀ vs : List Nat, (i ∉ vs → wipe (σ.set i x) vs = (wipe σ vs).set i x) ∧ (i ∈ vs → wipe (σ.set i x) vs = wipe σ vs)
  | [] => ⟨fun _ => rfl, fun h => by cases h⟩
  | v :: vs => by
    obtain ⟨h1, h2⟩ := wipe_set x i σ vs
    constructor
    · intro h
      have n1 : i ≠ v := fun e => h (by rw [e]; exact List.mem_cons_self)
      have n2 : i ∉ vs := fun e => h (List.mem_cons_of_mem _ e)
      show (wipe (σ.set i x) vs).set v none = ((wipe σ vs).set v none).set i x
      rw [h1 n2, List.set_comm _ _ n1]
    · intro h
      show (wipe (σ.set i x) vs).set v none = (wipe σ vs).set v none
      by_cases hi : i ∈ vs
      · rw [h2 hi]
      · have e : i = v := by
          cases h with
          | head => rfl
          | tail _ h => exact absurd h hi
        subst e
        rw [h1 hi, List.set_set]
def SimG (K : PySem.W.Frag) (ct : CT) (ms : List Nat) (vp : Nat → V) (g : TG) (tg : D → Env → Option Env) (sl : List Nat) : Prop := ∀ H0 ρ σ R H v d, Ok K ct H0 ms vp ρ σ R H → Rep K ct.b R v d → ∀ (Q : L2.St → Hp → Prop) ρ', tg d ρ = some ρ' →
  (∀ σ', Ok K ct H0 ms vp ρ' σ' R H → (∀ vs, (∀ i ∈ sl, i ∈ vs) → wipe σ' vs = wipe σ vs) → Q σ' H) → g v σ H Q
def SimGs (K : PySem.W.Frag) (ct : CT) (ms : List Nat) (vp : Nat → V) (g : TGs) (tg : List D → Env → Option Env) (sl : List Nat) : Prop := ∀ H0 ρ σ R H vs ds, Ok K ct H0 ms vp ρ σ R H → Reps K ct.b R vs ds → ∀ (Q : L2.St → Hp → Prop) ρ', tg ds ρ = some ρ' →
  (∀ σ', Ok K ct H0 ms vp ρ' σ' R H → (∀ vs, (∀ i ∈ sl, i ∈ vs) → wipe σ' vs = wipe σ vs) → Q σ' H) → g vs σ H Q
def kName (i : Nat) : D → Env → Option Env := fun d ρ => some (ρ.set i (some d))
theorem sim_name {i : Nat} (hi : i ∉ ms) : SimG K ct ms vp (gName i) (kName i) [i] := fun H0 ρ σ R H v d ok r Q ρ' e k => by
  cases e
  exact k _ (ok.setR r hi) fun vs h => (wipe_set _ i σ vs).2 (h i (by simp))
def kNil : List D → Env → Option Env := fun ds ρ => match ds with
  | [] => some ρ
  | _ => none
def kCons (f : D → Env → Option Env) (g : List D → Env → Option Env) : List D → Env → Option Env := fun ds ρ => match ds with
  | d :: ds => (f d ρ).bind (g ds)
  | [] => none
def kTup (n : Nat) (g : List D → Env → Option Env) : D → Env → Option Env := fun d ρ => match d with
  | .tup ds => if ds.length = n then g ds ρ else none
  | _ => none
theorem sim_gnil : SimGs K ct ms vp gNil kNil [] := fun H0 ρ σ R H vs ds ok r Q ρ' e k => by
  cases ds with
  | nil => cases e; exact ⟨r.nil_inv, k σ ok fun _ _ => rfl⟩
  | cons => cases e
theorem sim_gcons {g : TG} {gs : TGs} {f : D → Env → Option Env} {fs : List D → Env → Option Env} {s1 s2 : List Nat} (h : SimG K ct ms vp g f s1) (hs : SimGs K ct ms vp gs fs s2) : SimGs K ct ms vp (gCons g gs) (kCons f fs) (s1 ++ s2) := fun H0 ρ σ R H vs ds ok r Q ρ' e k => by
  cases ds with
  | nil => cases e
  | cons d ds =>
    obtain ⟨ρ1, e1, e2⟩ := Option.bind_eq_some_iff.mp e
    obtain ⟨v, ws, rfl, r1, r2⟩ := r.cons_inv
    exact ⟨v, ws, rfl, h H0 ρ σ R H v d ok r1 _ ρ1 e1 fun σ1 ok1 w1 => hs H0 ρ1 σ1 R H ws ds ok1 r2 Q ρ' e2 fun σ2 ok2 w2 =>
      k σ2 ok2 fun vs h => (w2 vs fun i hi => h i (List.mem_append_right _ hi)).trans (w1 vs fun i hi => h i (List.mem_append_left _ hi))⟩
theorem sim_gtup {n : Nat} {gs : TGs} {fs : List D → Env → Option Env} {s1 : List Nat} (hs : SimGs K ct ms vp gs fs s1) : SimG K ct ms vp (gTup K n gs) (kTup n fs) s1 := fun H0 ρ σ R H v d ok r Q ρ' e k => by
  unfold kTup at e
  split at e
  · rename_i ds
    split at e
    · rename_i hn
      obtain ⟨a, vs, rfl, q, z⟩ := r.tup_inv
      exact ⟨a, vs, rfl, SqT.mono ok.same q, z.1.trans hn, hs H0 ρ σ R H vs ds ok z Q ρ' e k⟩
    · cases e
  · cases e
def mTo (tg : D → Env → Option Env) (f : M D) : Stm := mThen f fun d ρ => match tg d ρ with
  | some ρ1 => .nx ρ1
  | none => .st
theorem sim_to {t : TE} {g : TG} {f : M D} {tg : D → Env → Option Env} {sl : List Nat} (hf : SimF K ct ms vp W t f) (hg : SimG K ct ms vp g tg sl) : SimS K ct ms vp W (tAsg t g) (mTo tg f) := fun H0 ρ σ R H ok D' q =>
  hf H0 ρ σ R H ok _ (Po.mono (PoS.bind q) fun d ρ1 q v R1 H1 g1 ok1 r1 => by
    cases e : tg d ρ1 with
    | none => rw [e] at q; exact q.elim
    | some ρ2 =>
      rw [e] at q
      exact hg H0 ρ1 σ R1 H1 v d ok1 r1 _ ρ2 e fun σ' ok2 _ => q σ' R1 H1 g1 ok2)
/-- xs[j] = e, the list in a slot -/
def ixSet (ds : List D) : D → Option Nat
  | .int i => ixN ds.length i
  | _ => none
def mSetIx (i : Nat) (f g : M D) : Stm := mThen f fun x => mThen (mGet fun ρ => olsOf ρ[i]?) fun _ => mThen g fun j => mThen (mGet fun ρ => olsOf ρ[i]?) fun ds => mThen (mO (ixSet ds j)) fun n ρ => .nx (ρ.set i (some (.ols (ds.set n x))))
theorem PoS.get {α : Type} {D' : Ends} {f : Env → Option α} {g : α → Stm} (h : PoS K ct ms vp W H0 R D' (mThen (mGet f) g ρ)) : ∃ a, f ρ = some a ∧ PoS K ct ms vp W H0 R D' (g a ρ) := by
  unfold mThen mGet at h
  cases e : f ρ with
  | none => rw [e] at h; exact h.elim
  | some a => rw [e] at h; exact ⟨a, rfl, h⟩
theorem PoS.opt {α : Type} {D' : Ends} {x : Option α} {g : α → Stm} (h : PoS K ct ms vp W H0 R D' (mThen (mO x) g ρ)) : ∃ a, x = some a ∧ PoS K ct ms vp W H0 R D' (g a ρ) := by
  cases x with
  | none => exact h.elim
  | some a => exact ⟨a, rfl, h⟩
theorem sim_setIx {i : Nat} {te ti : TE} {f g : M D} (hf : SimF K ct ms vp W te f) (hg : SimF K ct ms vp W ti g) : SimS K ct ms vp W (tAsg te (gSub (tVar i) ti rSetL)) (mSetIx i f g) := fun H0 ρ σ R H ok D' q =>
  hf H0 ρ σ R H ok _ (Po.mono (PoS.bind q) fun x ρ1 q v R1 H1 g1 ok1 r1 => by
    obtain ⟨ds0, e0, q⟩ := PoS.get q
    obtain ⟨a, vs, x0, y, l, _⟩ := ok1.olst (olsOf_some e0)
    refine ⟨.ref a, x0, hg H0 ρ1 σ R1 H1 ok1 _ (Po.gr g1 (PoS.bind q) fun j ρ2 q w R2 H2 g2 ok2 r2 => ?_)⟩
    obtain ⟨ds, e1, q⟩ := PoS.get q
    obtain ⟨n, e2, q⟩ := PoS.opt q
    obtain ⟨a1, vs1, x1, y1, l1, put⟩ := ok2.setL (olsOf_some e1)
    cases x0.symm.trans x1
    obtain ⟨k, ek, e3⟩ : ∃ k, j = .int k ∧ ixN ds.length k = some n := by
      cases j with
      | int k => exact ⟨k, rfl, e2⟩
      | _ => cases e2
    rw [ek] at r2
    exact ⟨a, vs1, k, n, rfl, r2.int_inv, y1, by rw [l1]; exact e3, q σ R2 _ (g1.trans g2) (put n v x (r1.mono g2.1))⟩)
/-- i += e -/
def mAug (i : Nat) (op : Int → Int → Int) (f : M D) : Stm := mThen (mGet fun ρ => match ρ[i]? with | some (some (.int n)) => some n | _ => none) fun n => mThen f fun d => mThen (mO (match d with | .int k => some k | _ => none)) fun k ρ => .nx (ρ.set i (some (.int (op n k))))
theorem sim_aug {i : Nat} {op : Int → Int → Int} {te : TE} {f : M D} (hf : SimF K ct ms vp W te f) (hi : i ∉ ms) : SimS K ct ms vp W (tAug i te (ipI op)) (mAug i op f) := fun H0 ρ σ R H ok D' q => by
  obtain ⟨n, e, q⟩ := PoS.get q
  have e' : ρ[i]? = some (some (.int n)) := by
    revert e
    split
    · intro e; cases e; assumption
    · intro e; cases e
  obtain ⟨v, x, r⟩ := ok.slot e' rfl
  cases r.int_inv
  refine ⟨.int n, x, hf H0 ρ σ R H ok _ (Po.mono (PoS.bind q) fun d ρ1 q w R1 H1 g1 ok1 r1 => ?_)⟩
  obtain ⟨k, e1, q⟩ := PoS.opt q
  cases d with
  | int k' =>
    cases e1
    cases r1.int_inv
    exact ⟨n, k, rfl, rfl, q _ R1 H1 g1 (ok1.setR (.int _) hi)⟩
  | _ => cases e1
/-! ### loops -/
def ItOk (K : PySem.W.Frag) (ct : CT) (J : It) (R : Hp) (ds : List D) : Prop := ∀ R1 H1, Same R R1 → Same R1 H1 → ∀ i : Nat, (∀ d, ds[i]? = some d → J.go i H1 ∧ ∀ x H2, J.yld i H1 x H2 → ∃ R2, Ext R1 H1 R2 H2 ∧ Rep K ct.b R2 x d) ∧ (ds.length ≤ i → J.stop i H1)
def SimI (K : PySem.W.Frag) (ct : CT) (ms : List Nat) (vp : Nat → V) (W : WX) (wi : TI) (f : M (List D)) : Prop := ∀ H0 ρ σ R H, Ok K ct H0 ms vp ρ σ R H → ∀ Rr : It → Hp → Prop, Po K ct ms vp W H0 σ R (fun ds ρ' => ∀ J R' H', Gr H0 R R' → Ok K ct H0 ms vp ρ' σ R' H' → ItOk K ct J R' ds → Rr J H') (f ρ) → wi σ H Rr
def mLoop (tg : D → Env → Option Env) (body : Stm) : List D → Stm
  | [], ρ => .nx ρ
  | d :: ds, ρ => match tg d ρ with
    | none => .st
    | some ρ1 => match body ρ1 with
      | .nx ρ2 => mLoop tg body ds ρ2
      | .ct ρ2 => mLoop tg body ds ρ2
      | .bk ρ2 => .nx ρ2
      | .rt d ρ2 => .rt d ρ2
      | .ex c x ρ2 => .ex c x ρ2
      | .st => .st
def mFor (it : M (List D)) (tg : D → Env → Option Env) (body : Stm) : Stm := mThen it fun ds => mLoop tg body ds
theorem sim_for {wi : TI} {g : TG} {tb : TS} {it : M (List D)} {tg : D → Env → Option Env} {body : Stm} {sl : List Nat} (hi : SimI K ct ms vp W wi it) (hg : SimG K ct ms vp g tg sl) (hb : SimS K ct ms vp W tb body) : SimS K ct ms vp W (tFor wi g tb) (mFor it tg body) := fun H0 ρ σ R H ok D' q =>
  hi H0 ρ σ R H ok _ (Po.mono (PoS.bind q) fun ds ρ1 q J R1 H1 g1 ok1 it => by
    refine ⟨fun i m σ H => m = ds.length - i ∧ i ≤ ds.length ∧ ∃ ρ R2, Gr H0 R1 R2 ∧ Ok K ct H0 ms vp ρ σ R2 H ∧ PoS K ct ms vp W H0 R2 D' (mLoop tg body (ds.drop i) ρ), ⟨ds.length, by omega, Nat.zero_le _, ρ1, R1, Gr.refl _ _, ok1, PoS.gr g1 q⟩, ?_⟩
    rintro i m σ2 H2 ⟨rfl, hle, ρ2, R2, g2, ok2, q2⟩
    obtain ⟨yes, no⟩ := it R2 H2 g2.1 ok2.same i
    by_cases hlt : i < ds.length
    · obtain ⟨go, yl⟩ := yes ds[i] (List.getElem?_eq_getElem hlt)
      refine .inr ⟨go, fun σ3 H3 => ∃ ρ3 R3, Gr H0 R1 R3 ∧ Ok K ct H0 ms vp ρ3 σ3 R3 H3 ∧ PoS K ct ms vp W H0 R3 D' (mLoop tg body (ds.drop (i + 1)) ρ3), fun σ3 H3 ⟨ρ3, R3, w⟩ => ⟨ds.length - (i + 1), by omega, rfl, hlt, ρ3, R3, w⟩, fun x H3 y => ?_⟩
      obtain ⟨R3, ex, rx⟩ := yl x H3 y
      have ok3 := ok2.ext ex
      have g3 := g2.trans (ok2.gr ex)
      have q3 := PoS.gr (ok2.gr ex) q2
      rw [List.drop_eq_getElem_cons hlt, mLoop] at q3
      cases e : tg ds[i] ρ2 with
      | none => rw [e] at q3; exact q3.elim
      | some ρ4 =>
        rw [e] at q3
        dsimp only at q3
        refine hg H0 ρ2 σ2 R3 H3 x ds[i] ok3 rx _ ρ4 e fun σ4 ok4 _ => hb H0 ρ4 σ4 R3 H3 ok4 _ ?_
        cases e2 : body ρ4 with
        | nx ρ5 => rw [e2] at q3; exact fun σ5 R5 H5 g5 ok5 => ⟨ρ5, R5, g3.trans g5, ok5, PoS.gr g5 q3⟩
        | ct ρ5 => rw [e2] at q3; exact fun σ5 R5 H5 g5 ok5 => ⟨ρ5, R5, g3.trans g5, ok5, PoS.gr g5 q3⟩
        | bk ρ5 => rw [e2] at q3; exact q3
        | rt d ρ5 => rw [e2] at q3; exact q3
        | ex c x ρ5 => rw [e2] at q3; exact q3
        | st => rw [e2] at q3; exact q3
    · rw [List.drop_eq_nil_of_le (by omega), mLoop] at q2
      exact .inl ⟨no (by omega), q2 σ2 R2 H2 (Gr.refl _ _) ok2⟩)
/-- while, at most so many turns -/
def mWhile (c : M Bool) (body : Stm) : Nat → Stm
  | 0 => fun _ => .st
  | n + 1 => mThen c fun b => if b = true then fun ρ => match body ρ with
      | .nx ρ2 => mWhile c body n ρ2
      | .ct ρ2 => mWhile c body n ρ2
      | .bk ρ2 => .nx ρ2
      | .rt d ρ2 => .rt d ρ2
      | .ex c x ρ2 => .ex c x ρ2
      | .st => .st
    else fun ρ => .nx ρ
theorem sim_while {c : TT} {tb : TS} {h : M Bool} {body : Stm} (n : Nat) (hc : SimT K ct ms vp W c h) (hb : SimS K ct ms vp W tb body) : SimS K ct ms vp W (tWhile c tb) (mWhile h body n) := fun H0 ρ σ R H ok D' q => by
  refine ⟨fun m σ H => ∃ ρ R2, Gr H0 R R2 ∧ Ok K ct H0 ms vp ρ σ R2 H ∧ PoS K ct ms vp W H0 R2 D' (mWhile h body m ρ), ⟨n, ρ, R, Gr.refl _ _, ok, q⟩, ?_⟩
  rintro m σ2 H2 ⟨ρ2, R2, g2, ok2, q2⟩
  cases m with
  | zero => exact q2.elim
  | succ m =>
    rw [mWhile] at q2
    refine hc H0 ρ2 σ2 R2 H2 ok2 _ (Po.mono (PoS.bind q2) fun b ρ3 q R3 H3 g3 ok3 => ?_)
    cases b with
    | false => exact q σ2 R3 H3 g3 ok3
    | true =>
      have q3 := PoS.gr g3 q
      refine ⟨fun σ5 H5 => ∃ ρ5 R5, Gr H0 R R5 ∧ Ok K ct H0 ms vp ρ5 σ5 R5 H5 ∧ PoS K ct ms vp W H0 R5 D' (mWhile h body m ρ5), fun σ5 H5 w => ⟨m, Nat.lt_succ_self m, w⟩, hb H0 ρ3 σ2 R3 H3 ok3 _ ?_⟩
      rw [if_pos rfl] at q3
      cases e2 : body ρ3 with
      | nx ρ5 => rw [e2] at q3; exact fun σ5 R5 H5 g5 ok5 => ⟨ρ5, R5, (g2.trans g3).trans g5, ok5, PoS.gr g5 q3⟩
      | ct ρ5 => rw [e2] at q3; exact fun σ5 R5 H5 g5 ok5 => ⟨ρ5, R5, (g2.trans g3).trans g5, ok5, PoS.gr g5 q3⟩
      | bk ρ5 => rw [e2] at q3; exact q3
      | rt d ρ5 => rw [e2] at q3; exact q3
      | ex c x ρ5 => rw [e2] at q3; exact q3
      | st => rw [e2] at q3; exact q3
/-! what a loop walks -/
theorem itok_list {a : Addr} {vs : List V} {ds : List D} (h : R a = some (.lst vs)) (r : Reps K ct.b R vs ds) : ItOk K ct (Itl K a) R ds := fun R1 H1 e1 e2 i => by
  have q : SqL K H1 a vs := .inl (.inl (e2 _ _ (e1 _ _ h)))
  refine ⟨fun d e => ?_, fun hl => ⟨vs, q, by rw [r.1]; exact hl⟩⟩
  obtain ⟨v, ev, rv⟩ := r.at e
  refine ⟨⟨vs, v, q, ev⟩, fun x H2 ⟨eH, y⟩ => ?_⟩
  subst eH
  have ex := y vs q
  rw [ev] at ex
  cases ex
  exact ⟨R1, Ext.refl e2, rv.mono e1⟩
theorem itok_tup {a : Addr} {vs : List V} {ds : List D} (h : SqT K R a vs) (r : Reps K ct.b R vs ds) : ItOk K ct (Itt K a) R ds := fun R1 H1 e1 e2 i => by
  have q : SqT K H1 a vs := SqT.mono e2 (SqT.mono e1 h)
  refine ⟨fun d e => ?_, fun hl => ⟨vs, q, by rw [r.1]; exact hl⟩⟩
  obtain ⟨v, ev, rv⟩ := r.at e
  refine ⟨⟨vs, v, q, ev⟩, fun x H2 ⟨eH, y⟩ => ?_⟩
  subst eH
  have ex := y vs q
  rw [ev] at ex
  cases ex
  exact ⟨R1, Ext.refl e2, rv.mono e1⟩
def asL : D → Option (List D)
  | .lst ds => some ds
  | _ => none
def asT : D → Option (List D)
  | .tup ds => some ds
  | _ => none
def mItL (f : M D) : M (List D) := mB f fun d => mO (asL d)
def mItT (f : M D) : M (List D) := mB f fun d => mO (asT d)
theorem asL_some {d : D} {ds : List D} (h : asL d = some ds) : d = .lst ds := by cases d <;> simp [asL] at h; rw [h]
theorem asT_some {d : D} {ds : List D} (h : asT d = some ds) : d = .tup ds := by cases d <;> simp [asT] at h; rw [h]
theorem sim_itL {t : TE} {f : M D} (hf : SimF K ct ms vp W t f) : SimI K ct ms vp W (iList K t) (mItL f) := fun H0 ρ σ R H ok Rr q =>
  hf H0 ρ σ R H ok _ (Po.mono (Po.bind q) fun d ρ1 q v R1 H1 g1 ok1 r1 => by
    obtain ⟨ds, e, q⟩ := Po.opt q
    cases asL_some e
    obtain ⟨a, vs, rfl, h, r⟩ := r1.lst_inv
    exact ⟨a, rfl, ⟨vs, .inl (.inl (ok1.same _ _ h))⟩, q _ R1 H1 g1 ok1 (itok_list h r)⟩)
theorem sim_itT {t : TE} {f : M D} (hf : SimF K ct ms vp W t f) : SimI K ct ms vp W (iTup K t) (mItT f) := fun H0 ρ σ R H ok Rr q =>
  hf H0 ρ σ R H ok _ (Po.mono (Po.bind q) fun d ρ1 q v R1 H1 g1 ok1 r1 => by
    obtain ⟨ds, e, q⟩ := Po.opt q
    cases asT_some e
    obtain ⟨a, vs, rfl, h, r⟩ := r1.tup_inv
    exact ⟨a, rfl, ⟨vs, SqT.mono ok1.same h⟩, q _ R1 H1 g1 ok1 (itok_tup h r)⟩)
theorem itok_rng (lo : Int) (n : Nat) : ItOk K ct (Itr lo n) R ((List.range n).map fun (k : Nat) => D.int (lo + (k : Int))) := fun R1 H1 e1 e2 i => by
  refine ⟨fun d e => ?_, fun hl => by rw [List.length_map, List.length_range] at hl; exact hl⟩
  rw [List.getElem?_map] at e
  obtain ⟨k, e3, rfl⟩ := Option.map_eq_some_iff.mp e
  have hk := List.getElem?_eq_some_iff.mp e3
  obtain ⟨h1, h2⟩ := hk
  rw [List.getElem_range] at h2
  subst h2
  refine ⟨by rw [List.length_range] at h1; exact h1, fun x H2 ⟨eH, ex⟩ => ?_⟩
  subst eH ex
  exact ⟨R1, Ext.refl e2, .int _⟩
def rg1 : List D → Option (List D)
  | [.int j] => if -(2 ^ 62) ≤ j ∧ j < 2 ^ 62 then some ((List.range j.toNat).map fun (k : Nat) => D.int (0 + (k : Int))) else none
  | _ => none
def rg2 : List D → Option (List D)
  | [.int i, .int j] => if -(2 ^ 62) ≤ i ∧ i < 2 ^ 62 ∧ -(2 ^ 62) ≤ j ∧ j < 2 ^ 62 then some ((List.range (j - i).toNat).map fun (k : Nat) => D.int (i + (k : Int))) else none
  | _ => none
def mRg1 (g : M (List D)) : M (List D) := mB g fun ds => mO (rg1 ds)
def mRg2 (g : M (List D)) : M (List D) := mB g fun ds => mO (rg2 ds)
theorem sim_rg1 {t : TA} {g : M (List D)} (hg : SimA K ct ms vp W t g) : SimI K ct ms vp W (iRng1 t) (mRg1 g) := fun H0 ρ σ R H ok Rr q =>
  hg H0 ρ σ R H ok _ (Po.mono (Po.bind q) fun xs ρ1 q vs R1 H1 g1 ok1 r1 => by
    obtain ⟨ds, e, q⟩ := Po.opt q
    unfold rg1 at e
    split at e
    · split at e
      · rename_i j hj
        cases e
        obtain ⟨v, ws, rfl, a, b⟩ := r1.cons_inv
        cases b.nil_inv
        cases a.int_inv
        exact ⟨j, rfl, hj.1, hj.2, q _ R1 H1 g1 ok1 (itok_rng 0 _)⟩
      · cases e
    · cases e)
theorem sim_rg2 {t : TA} {g : M (List D)} (hg : SimA K ct ms vp W t g) : SimI K ct ms vp W (iRng2 t) (mRg2 g) := fun H0 ρ σ R H ok Rr q =>
  hg H0 ρ σ R H ok _ (Po.mono (Po.bind q) fun xs ρ1 q vs R1 H1 g1 ok1 r1 => by
    obtain ⟨ds, e, q⟩ := Po.opt q
    unfold rg2 at e
    split at e
    · split at e
      · rename_i i j hj
        cases e
        obtain ⟨v, ws, rfl, a, b⟩ := r1.cons_inv
        obtain ⟨v2, ws2, rfl, a2, b2⟩ := b.cons_inv
        cases b2.nil_inv
        cases a.int_inv
        cases a2.int_inv
        exact ⟨i, j, rfl, hj, q _ R1 H1 g1 ok1 (itok_rng i _)⟩
      · cases e
    · cases e)
end
end Y

namespace Y
open PySem PySem.Spec PyProof.Rows L2
section
variable {K : PySem.W.Frag} {ct : CT} {ms : List Nat} {W : WX} {H0 R R' H H' : Hp} {vp : Nat → V} {ρ : Env} {σ : L2.St}
/-! ### comprehensions -/
def wipeE (ρ : Env) : List Nat → Env
  | [] => ρ
  | v :: vs => (wipeE ρ vs).set v none
theorem wipeE_length (ρ : Env) : ∀ vs : List Nat, (wipeE ρ vs).length = ρ.length
  | [] => rfl
  | v :: vs => by unfold wipeE; rw [List.length_set, wipeE_length ρ vs]
theorem wipeE_some {i : Nat} {x : D} : ∀ {vs : List Nat}, (wipeE ρ vs)[i]? = some (some x) → ρ[i]? = some (some x) ∧ i ∉ vs
  | [], h => ⟨h, by simp⟩
  | v :: vs, h => by
    unfold wipeE at h
    by_cases e : v = i
    · subst e
      rw [List.getElem?_set] at h
      simp only [if_true] at h
      split at h <;> cases h
    · rw [List.getElem?_set_ne e] at h
      obtain ⟨a, b⟩ := wipeE_some h
      exact ⟨a, by simp [b, Ne.symm e]⟩
/-- the names of a comprehension are gone -/
theorem Ok.wipe (ok : Ok K ct H0 ms vp ρ σ R H) {vs : List Nat} {σ' : L2.St} (hv : ∀ v ∈ vs, v ∉ ms) (e : L2.wipe σ' vs = L2.wipe σ vs) : Ok K ct H0 ms vp (wipeE ρ vs) σ' R H := by
  have l : σ'.length = σ.length := by rw [← wipe_length σ' vs, e, wipe_length]
  have out : ∀ i, i ∉ vs → σ'[i]? = σ[i]? := fun i hi => by rw [← wipe_out (σ := σ') hi, e, wipe_out hi]
  refine ok.sel id (by rw [l, ok.len, wipeE_length]) (fun i hi => ?_) (fun k d h => ?_) fun k k' _ _ h => h
  · rw [out i fun z => hv i z hi]
    exact ok.pins i hi
  · obtain ⟨a, b⟩ := wipeE_some h
    exact ⟨a, out k b⟩
theorem wipe_wipe (σ : L2.St) : ∀ vs ws : List Nat, (∀ v ∈ vs, v ∈ ws) → L2.wipe (L2.wipe σ vs) ws = L2.wipe σ ws
  | [], ws, _ => rfl
  | v :: vs, ws, h => by
    show L2.wipe ((L2.wipe σ vs).set v none) ws = _
    rw [(wipe_set none v (L2.wipe σ vs) ws).2 (h v List.mem_cons_self), wipe_wipe σ vs ws fun u hu => h u (List.mem_cons_of_mem _ hu)]
/-- a thing of another's stands by -/
theorem Ok.guard (ok : Ok K ct H0 ms vp ρ σ R H) {p : Addr} {o : HO} (hp : H p = none) : Ok K ct (upd H0 p o) ms vp ρ σ R (upd H p o) := by
  obtain ⟨s, k, iv, l, pi, F, f1, f2, f3⟩ := ok
  have ex := Ext.heap (o := o) s hp
  refine ⟨ex.s, fun b u q => ?_, iv, l, pi, F, fun i d h => ?_, f2, fun i b h => ?_⟩
  · by_cases e : b = p
    · subst e; rw [upd_same] at q ⊢; exact q
    · rw [upd_ne e] at q ⊢; exact k _ _ q
  · obtain ⟨v, x, y⟩ := f1 i d h
    exact ⟨v, x, y.monoH fun b u _ q => ex.h _ _ q⟩
  · obtain ⟨x, y, z⟩ := f3 i b h
    have ne : b ≠ p := fun e => y (e ▸ hp)
    exact ⟨x, by rw [upd_ne ne]; exact y, by rw [upd_ne ne]; exact z⟩
theorem Ok.reguard {p : Addr} {o o' : HO} (ok : Ok K ct (upd H0 p o) ms vp ρ σ R H) (hr : R p = none) : Ok K ct (upd H0 p o') ms vp ρ σ R (upd H p o') := by
  obtain ⟨s, k, iv, l, pi, F, f1, f2, f3⟩ := ok
  have nF : ∀ i b, F i b → b ≠ p := fun i b h e => by
    have := (f3 i b h).2.2
    rw [e, upd_same] at this
    cases this
  refine ⟨fun b u q => ?_, fun b u q => ?_, iv, l, pi, F, fun i d h => ?_, f2, fun i b h => ?_⟩
  · rw [upd_ne (ne_of_none q hr)]; exact s _ _ q
  · by_cases e : b = p
    · subst e; rw [upd_same] at q ⊢; exact q
    · rw [upd_ne e] at q ⊢
      exact k _ _ (by rw [upd_ne e]; exact q)
  · obtain ⟨v, x, y⟩ := f1 i d h
    exact ⟨v, x, y.monoH fun b u g q => by rw [upd_ne (nF i b g)]; exact q⟩
  · obtain ⟨x, y, z⟩ := f3 i b h
    have ne := nF i b h
    rw [upd_ne ne] at z
    exact ⟨x, by rw [upd_ne ne]; exact y, by rw [upd_ne ne]; exact z⟩
theorem Ok.unguard {p : Addr} {vs : List V} {ds : List D} (ok : Ok K ct (upd H0 p (.lst vs)) ms vp ρ σ R H) (h0 : H0 p = none) (hr : R p = none) (r : Reps K ct.b R vs ds) :
    Ok K ct H0 ms vp (ρ ++ [some (.ols ds)]) (σ ++ [some (.ref p)]) R H := by
  obtain ⟨s, k, iv, l, pi, F, f1, f2, f3⟩ := ok
  have nF : ∀ i b, F i b → b ≠ p := fun i b h e => by
    have := (f3 i b h).2.2
    rw [e, upd_same] at this
    cases this
  have hp : H p = some (.lst vs) := k _ _ upd_same
  refine ⟨s, fun b u q => k _ _ (by rw [upd_ne (ne_of_none q h0)]; exact q), iv, by simp [l], fun i hi => ?_, fun i b => (i < ρ.length ∧ F i b) ∨ (i = ρ.length ∧ b = p), fun i e h => ?_, fun i j b ne x y => ?_, fun i b h => ?_⟩
  · have q := pi i hi
    have z : i < σ.length := (List.getElem?_eq_some_iff.mp q).1
    rw [List.getElem?_append_left z]
    exact q
  · by_cases z : i < ρ.length
    · rw [List.getElem?_append_left z] at h
      obtain ⟨u, a, b⟩ := f1 i e h
      exact ⟨u, by rw [List.getElem?_append_left (by rw [l]; exact z)]; exact a, b.monoF fun c g => .inl ⟨z, g⟩⟩
    · have z2 : i = ρ.length := by
        have := (List.getElem?_eq_some_iff.mp h).1
        simp at this
        omega
      subst z2
      have : D.ols ds = e := by simpa using h
      subst this
      exact ⟨.ref p, by rw [← l]; simp, .flat hp (.inr ⟨rfl, rfl⟩) r⟩
  · rcases x with x | x <;> rcases y with y | y
    · exact f2 i j b ne x.2 y.2
    · exact nF i b x.2 y.2
    · exact nF j b y.2 x.2
    · exact ne (x.1.trans y.1.symm)
  · rcases h with h | h
    · obtain ⟨a, b', c⟩ := f3 i b h.2
      refine ⟨a, b', ?_⟩
      rw [upd_ne (nF i b h.2)] at c
      exact c
    · obtain ⟨_, rfl⟩ := h
      exact ⟨hr, by rw [hp]; exact Option.some_ne_none _, h0⟩
theorem Gr.unguard {p : Addr} {o : HO} (g : Gr (upd H0 p o) R R') : Gr H0 R R' := ⟨g.1, fun b h => (g.2 b h).imp id fun z => by
  unfold upd at z
  split at z
  · cases z
  · exact z⟩
theorem Gr.still {p : Addr} {o : HO} (g : Gr (upd H0 p o) R R') (h : R p = none) : R' p = none := by
  cases e : R' p with
  | none => rfl
  | some x =>
    rcases g.2 p (by rw [e]; exact Option.some_ne_none _) with z | z
    · exact absurd h z
    · rw [upd_same] at z; cases z
/-- one item of a comprehension: what it gives, if anything -/
def lcStep (tg : D → Env → Option Env) (test : M Bool) (elt : M D) (vs : List Nat) (d : D) (ρ : Env) : Option (Option D × Env) := match tg d (wipeE ρ vs) with
  | none => none
  | some ρ1 => match test ρ1 with
    | .ok true ρ2 => match elt ρ2 with
      | .ok y ρ3 => some (some y, ρ3)
      | _ => none
    | .ok false ρ2 => some (none, ρ2)
    | _ => none
theorem lcStep_some {tg : D → Env → Option Env} {test : M Bool} {elt : M D} {vs : List Nat} {d : D} {ρ ρ' : Env} {z : Option D} (h : lcStep tg test elt vs d ρ = some (z, ρ')) :
    ∃ ρ1, tg d (wipeE ρ vs) = some ρ1 ∧ ((test ρ1 = .ok false ρ' ∧ z = none) ∨ ∃ y ρ2, test ρ1 = .ok true ρ2 ∧ elt ρ2 = .ok y ρ' ∧ z = some y) := by
  unfold lcStep at h
  cases e : tg d (wipeE ρ vs) with
  | none => rw [e] at h; cases h
  | some ρ1 =>
    rw [e] at h
    dsimp only at h
    refine ⟨ρ1, rfl, ?_⟩
    cases e1 : test ρ1 with
    | st => rw [e1] at h; cases h
    | ex c x ρ5 => rw [e1] at h; cases h
    | ok b ρ2 =>
      rw [e1] at h
      cases b with
      | false => cases h; exact .inl ⟨rfl, rfl⟩
      | true =>
        dsimp only at h
        cases e2 : elt ρ2 with
        | st => rw [e2] at h; cases h
        | ex c x ρ5 => rw [e2] at h; cases h
        | ok y ρ3 => rw [e2] at h; cases h; exact .inr ⟨y, ρ2, rfl, e2, rfl⟩
def lcGo (step : D → Env → Option (Option D × Env)) (vs : List Nat) : List D → List D → Env → Option (List D × Env)
  | [], acc, ρ => some (acc, ρ)
  | d :: ds, acc, ρ => match step d ρ with
    | none => none
    | some (some y, ρ1) => if acc.length < 100000 then lcGo step vs ds (acc ++ [y]) (wipeE ρ1 vs) else none
    | some (none, ρ1) => lcGo step vs ds acc (wipeE ρ1 vs)
def mLc (it : M (List D)) (tg : D → Env → Option Env) (test : M Bool) (elt : M D) (vs : List Nat) : M D := mB it fun ds ρ => match lcGo (lcStep tg test elt vs) vs ds [] (wipeE ρ vs) with
  | some (acc, ρ1) => .ok (.ols acc) ρ1
  | none => .st
def WNo : WX := fun _ _ _ _ => False
theorem sim_lc {wi : TI} {g : TG} {tt : TT} {te : TE} {vs : List Nat} {it : M (List D)} {tg : D → Env → Option Env} {test : M Bool} {elt : M D} {sl : List Nat} (hi : SimI K ct ms vp W wi it) (hg : SimG K ct ms vp g tg sl) (hs : ∀ i ∈ sl, i ∈ vs) (hv : ∀ v ∈ vs, v ∉ ms)
    (ht : SimT K ct ms vp WNo tt test) (he : SimF K ct ms vp WNo te elt) : SimE K ct ms vp W (tLc wi g tt te vs) (mLc it tg test elt vs) := fun H0 ρ σ R H ok Q q => by
  refine hi H0 ρ σ R H ok _ (Po.mono (Po.bind q) fun ds ρ1 q J R1 H1 g1 ok1 it P hP => ?_)
  have h0 : H0 P = none := ok1.keep.free hP
  have r0 : R1 P = none := ok1.same.free hP
  have okw : Ok K ct (upd H0 P (.lst [])) ms vp (wipeE ρ1 vs) σ R1 (upd H1 P (.lst [])) := (ok1.guard hP).wipe hv rfl
  refine ⟨fun i m H => m = ds.length - i ∧ i ≤ ds.length ∧ ∃ ρ R2 ws acc, Gr H0 R1 R2 ∧ R2 P = none ∧ Reps K ct.b R2 ws acc ∧ Ok K ct (upd H0 P (.lst ws)) ms vp ρ σ R2 H ∧
      Po K ct ms vp W H0 σ R (fun d ρ' => ∀ v R' H', Gr H0 R R' → Ok K ct H0 ms vp (ρ' ++ [some d]) (σ ++ [some v]) R' H' → ρ'.length = σ.length → Q v H')
        (match lcGo (lcStep tg test elt vs) vs (ds.drop i) acc ρ with | some (acc, ρ1) => .ok (.ols acc) ρ1 | none => .st),
    ⟨ds.length, by omega, Nat.zero_le _, _, R1, [], [], Gr.refl _ _, r0, .nil, okw, q⟩, ?_⟩
  rintro i m H2 ⟨rfl, hle, ρ2, R2, ws, acc, g2, r2, ra, ok2, q2⟩
  obtain ⟨yes, no⟩ := it R2 H2 g2.1 ok2.same i
  by_cases hlt : i < ds.length
  · obtain ⟨go, yl⟩ := yes ds[i] (List.getElem?_eq_getElem hlt)
    refine .inr ⟨go, fun H3 => ∃ ρ R2 ws acc, Gr H0 R1 R2 ∧ R2 P = none ∧ Reps K ct.b R2 ws acc ∧ Ok K ct (upd H0 P (.lst ws)) ms vp ρ σ R2 H3 ∧
      Po K ct ms vp W H0 σ R (fun d ρ' => ∀ v R' H', Gr H0 R R' → Ok K ct H0 ms vp (ρ' ++ [some d]) (σ ++ [some v]) R' H' → ρ'.length = σ.length → Q v H')
        (match lcGo (lcStep tg test elt vs) vs (ds.drop (i + 1)) acc ρ with | some (acc, ρ1) => .ok (.ols acc) ρ1 | none => .st),
      fun H3 w => ⟨ds.length - (i + 1), by omega, rfl, hlt, w⟩, fun x H3 y => ?_⟩
    obtain ⟨R3, ex, rx⟩ := yl x H3 y
    have ok3 := (ok2.ext ex).wipe (σ' := L2.wipe σ vs) hv (wipe_wipe σ vs vs fun _ h => h)
    have g3 : Gr (upd H0 P (.lst ws)) R2 R3 := ok2.gr ex
    rw [List.drop_eq_getElem_cons hlt, lcGo] at q2
    cases e : lcStep tg test elt vs ds[i] ρ2 with
    | none => rw [e] at q2; exact q2.elim
    | some zr =>
      obtain ⟨z, ρ6⟩ := zr
      rw [e] at q2
      try dsimp only at q2
      obtain ⟨ρ4, e4, hz⟩ := lcStep_some e
      refine hg _ _ _ R3 H3 x ds[i] ok3 rx _ ρ4 e4 fun σ4 ok4 w4 => ?_
      have w4' : L2.wipe σ4 vs = L2.wipe σ vs := (w4 vs hs).trans (wipe_wipe σ vs vs fun _ h => h)
      refine ⟨w4', ht _ ρ4 σ4 R3 H3 ok4 _ ?_⟩
      rcases hz with ⟨e1, ez⟩ | ⟨y, ρ5, e1, e2, ez⟩
      · rw [e1]
        rw [ez] at q2
        intro R5 H5 g5 ok5
        have gg := (g3.trans g5)
        exact ⟨wipeE ρ6 vs, R5, ws, acc, g2.trans gg.unguard, gg.still r2, ra.mono gg.1, ok5.wipe (σ' := σ) hv w4'.symm, q2⟩
      · rw [e1]
        rw [ez] at q2
        intro R5 H5 g5 ok5
        refine he _ ρ5 σ4 R5 H5 ok5 _ ?_
        rw [e2]
        intro v R6 H6 g6 ok6 r6
        dsimp only at q2
        by_cases hacc : acc.length < 100000
        · rw [if_pos hacc] at q2
          have gg := ((g3.trans g5).trans g6)
          have rP := gg.still r2
          exact ⟨ws, ok6.keep _ _ upd_same, by rw [ra.1]; exact Nat.lt_of_lt_of_le hacc (by decide), wipeE ρ6 vs, R6, ws ++ [v], acc ++ [y], g2.trans gg.unguard, rP, (ra.mono gg.1).snoc r6, (ok6.reguard rP).wipe (σ' := σ) hv w4'.symm, q2⟩
        · rw [if_neg hacc] at q2
          exact q2.elim
  · rw [List.drop_eq_nil_of_le (by omega), lcGo] at q2
    exact .inl ⟨no (by omega), q2 (.ref P) R2 H2 (g1.trans g2) (ok2.unguard h0 r2 ra) ok2.len.symm⟩
/-! two clauses -/
def lc2Step (tg : D → Env → Option Env) (test : M Bool) (it1 : M (List D)) (step1 : D → Env → Option (Option D × Env)) (vs vs1 : List Nat) (d : D) (acc : List D) (ρ : Env) : Option (List D × Env) := match tg d (wipeE ρ vs) with
  | none => none
  | some ρ1 => match test ρ1 with
    | .ok true ρ2 => match it1 ρ2 with
      | .ok ds1 ρ3 => lcGo step1 vs1 ds1 acc (wipeE ρ3 vs1)
      | _ => none
    | .ok false ρ2 => some (acc, ρ2)
    | _ => none
def lc2Go (step : D → List D → Env → Option (List D × Env)) (vs : List Nat) : List D → List D → Env → Option (List D × Env)
  | [], acc, ρ => some (acc, ρ)
  | d :: ds, acc, ρ => match step d acc ρ with
    | none => none
    | some (acc1, ρ1) => lc2Go step vs ds acc1 (wipeE ρ1 vs)
def mLc2 (it : M (List D)) (tg : D → Env → Option Env) (test : M Bool) (it1 : M (List D)) (tg1 : D → Env → Option Env) (test1 : M Bool) (elt : M D) (vs vs1 : List Nat) : M D := mB it fun ds ρ =>
  match lc2Go (lc2Step tg test it1 (lcStep tg1 test1 elt vs1) vs vs1) vs ds [] (wipeE ρ vs) with
  | some (acc, ρ1) => .ok (.ols acc) ρ1
  | none => .st
theorem sim_lc2 {wi wi1 : TI} {g g1 : TG} {tt tt1 : TT} {te : TE} {vs vs1 : List Nat} {it it1 : M (List D)} {tg tg1 : D → Env → Option Env} {test test1 : M Bool} {elt : M D} {sl sl1 : List Nat} (hi : SimI K ct ms vp W wi it) (hg : SimG K ct ms vp g tg sl) (hs : ∀ i ∈ sl, i ∈ vs) (hv : ∀ v ∈ vs, v ∉ ms)
    (ht : SimT K ct ms vp WNo tt test) (hi1 : SimI K ct ms vp WNo wi1 it1) (hg1 : SimG K ct ms vp g1 tg1 sl1) (hs1 : ∀ i ∈ sl1, i ∈ vs1) (hv1 : ∀ v ∈ vs1, v ∈ vs) (ht1 : SimT K ct ms vp WNo tt1 test1) (he : SimF K ct ms vp WNo te elt) :
    SimE K ct ms vp W (tLc2 wi g tt wi1 g1 tt1 te vs vs1) (mLc2 it tg test it1 tg1 test1 elt vs vs1) := fun H0 ρ σ R H ok Q q => by
  have hv1' : ∀ v ∈ vs1, v ∉ ms := fun v h => hv v (hv1 v h)
  refine hi H0 ρ σ R H ok _ (Po.mono (Po.bind q) fun ds ρ1 q J R1 H1 gr1 ok1 it P hP => ?_)
  have h0 : H0 P = none := ok1.keep.free hP
  have r0 : R1 P = none := ok1.same.free hP
  have okw : Ok K ct (upd H0 P (.lst [])) ms vp (wipeE ρ1 vs) σ R1 (upd H1 P (.lst [])) := (ok1.guard hP).wipe hv rfl
  -- what is owed behind the first clause's items from i on
  let Owed : Nat → List D → Env → Prop := fun i acc ρ => Po K ct ms vp W H0 σ R (fun d ρ' => ∀ v R' H', Gr H0 R R' → Ok K ct H0 ms vp (ρ' ++ [some d]) (σ ++ [some v]) R' H' → ρ'.length = σ.length → Q v H')
        (match lc2Go (lc2Step tg test it1 (lcStep tg1 test1 elt vs1) vs vs1) vs (ds.drop i) acc ρ with | some (acc, ρ1) => .ok (.ols acc) ρ1 | none => .st)
  let Nx : Nat → Hp → Prop := fun i H => ∃ ρ R2 ws acc, Gr H0 R1 R2 ∧ R2 P = none ∧ Reps K ct.b R2 ws acc ∧ Ok K ct (upd H0 P (.lst ws)) ms vp ρ σ R2 H ∧ Owed i acc ρ
  refine ⟨fun i m H => m = ds.length - i ∧ i ≤ ds.length ∧ Nx i H, ⟨ds.length, by omega, Nat.zero_le _, _, R1, [], [], Gr.refl _ _, r0, .nil, okw, q⟩, ?_⟩
  rintro i m H2 ⟨rfl, hle, ρ2, R2, ws, acc, g2, r2, ra, ok2, q2⟩
  obtain ⟨yes, no⟩ := it R2 H2 g2.1 ok2.same i
  by_cases hlt : i < ds.length
  · obtain ⟨go, yl⟩ := yes ds[i] (List.getElem?_eq_getElem hlt)
    refine .inr ⟨go, Nx (i + 1), fun H3 w => ⟨ds.length - (i + 1), by omega, rfl, hlt, w⟩, fun x H3 y => ?_⟩
    obtain ⟨R3, ex, rx⟩ := yl x H3 y
    have ok3 := (ok2.ext ex).wipe (σ' := L2.wipe σ vs) hv (wipe_wipe σ vs vs fun _ h => h)
    have g3 : Gr (upd H0 P (.lst ws)) R2 R3 := ok2.gr ex
    dsimp only [Owed] at q2
    rw [List.drop_eq_getElem_cons hlt, lc2Go] at q2
    unfold lc2Step at q2
    cases e : tg ds[i] (wipeE ρ2 vs) with
    | none => rw [e] at q2; exact q2.elim
    | some ρ4 =>
      rw [e] at q2
      dsimp only at q2
      refine hg _ _ _ R3 H3 x ds[i] ok3 rx _ ρ4 e fun σ4 ok4 w4 => ?_
      have w4' : L2.wipe σ4 vs = L2.wipe σ vs := (w4 vs hs).trans (wipe_wipe σ vs vs fun _ h => h)
      refine ⟨w4', ht _ ρ4 σ4 R3 H3 ok4 _ ?_⟩
      cases e1 : test ρ4 with
      | st => rw [e1] at q2; exact q2.elim
      | ex c x ρ5 => rw [e1] at q2; exact q2.elim
      | ok b ρ5 =>
        rw [e1] at q2
        intro R5 H5 g5 ok5
        cases b with
        | false =>
          have ok6 := ok5.wipe (σ' := σ) hv w4'.symm
          have gg := (g3.trans g5)
          exact ⟨wipeE ρ5 vs, R5, ws, acc, g2.trans gg.unguard, gg.still r2, ra.mono gg.1, ok6, q2⟩
        | true =>
          dsimp only at q2
          refine hi1 _ ρ5 σ4 R5 H5 ok5 _ ?_
          cases e2 : it1 ρ5 with
          | st => rw [e2] at q2; exact q2.elim
          | ex c x ρ6 => rw [e2] at q2; exact q2.elim
          | ok ds1 ρ6 =>
            rw [e2] at q2
            dsimp only at q2
            intro J1 R6 H6 g6 ok6 it6
            have gg := ((g3.trans g5).trans g6)
            have rP := gg.still r2
            refine ⟨fun j k H => k = ds1.length - j ∧ j ≤ ds1.length ∧ ∃ ρ R7 ws acc, Gr H0 R1 R7 ∧ Same R6 R7 ∧ R7 P = none ∧ Reps K ct.b R7 ws acc ∧ Ok K ct (upd H0 P (.lst ws)) ms vp ρ σ4 R7 H ∧
              Po K ct ms vp W H0 σ R (fun d ρ' => ∀ v R' H', Gr H0 R R' → Ok K ct H0 ms vp (ρ' ++ [some d]) (σ ++ [some v]) R' H' → ρ'.length = σ.length → Q v H')
                (match (match lcGo (lcStep tg1 test1 elt vs1) vs1 (ds1.drop j) acc ρ with | none => none | some (acc1, ρ1) => lc2Go (lc2Step tg test it1 (lcStep tg1 test1 elt vs1) vs vs1) vs (ds.drop (i + 1)) acc1 (wipeE ρ1 vs)) with | some (acc, ρ1) => .ok (.ols acc) ρ1 | none => .st),
              ⟨ds1.length, by omega, Nat.zero_le _, wipeE ρ6 vs1, R6, ws, acc, g2.trans gg.unguard, Same.refl _, rP, ra.mono gg.1, ok6.wipe hv1' rfl, q2⟩, ?_⟩
            rintro j k H7 ⟨rfl, hle1, ρ7, R7, ws7, acc7, g7, s7, p7, ra7, ok7, q7⟩
            obtain ⟨yes1, no1⟩ := it6 R7 H7 s7 ok7.same j
            by_cases hlt1 : j < ds1.length
            · obtain ⟨go1, yl1⟩ := yes1 ds1[j] (List.getElem?_eq_getElem hlt1)
              refine .inr ⟨go1, fun H8 => ∃ ρ R7 ws acc, Gr H0 R1 R7 ∧ Same R6 R7 ∧ R7 P = none ∧ Reps K ct.b R7 ws acc ∧ Ok K ct (upd H0 P (.lst ws)) ms vp ρ σ4 R7 H8 ∧
                Po K ct ms vp W H0 σ R (fun d ρ' => ∀ v R' H', Gr H0 R R' → Ok K ct H0 ms vp (ρ' ++ [some d]) (σ ++ [some v]) R' H' → ρ'.length = σ.length → Q v H')
                  (match (match lcGo (lcStep tg1 test1 elt vs1) vs1 (ds1.drop (j + 1)) acc ρ with | none => none | some (acc1, ρ1) => lc2Go (lc2Step tg test it1 (lcStep tg1 test1 elt vs1) vs vs1) vs (ds.drop (i + 1)) acc1 (wipeE ρ1 vs)) with | some (acc, ρ1) => .ok (.ols acc) ρ1 | none => .st),
                fun H8 w => ⟨ds1.length - (j + 1), by omega, rfl, hlt1, w⟩, fun x H8 y => ?_⟩
              obtain ⟨R8, ex8, rx8⟩ := yl1 x H8 y
              have ok8 := (ok7.ext ex8).wipe (σ' := L2.wipe σ4 vs1) hv1' (wipe_wipe σ4 vs1 vs1 fun _ h => h)
              have g8 : Gr (upd H0 P (.lst ws7)) R7 R8 := ok7.gr ex8
              rw [List.drop_eq_getElem_cons hlt1, lcGo] at q7
              cases e8 : lcStep tg1 test1 elt vs1 ds1[j] ρ7 with
              | none => rw [e8] at q7; exact q7.elim
              | some zr =>
                obtain ⟨z, ρ9⟩ := zr
                rw [e8] at q7
                try dsimp only at q7
                obtain ⟨ρ8, e9, hz⟩ := lcStep_some e8
                refine hg1 _ _ _ R8 H8 x ds1[j] ok8 rx8 _ ρ8 e9 fun σ8 ok8' w8 => ?_
                have w8' : L2.wipe σ8 vs1 = L2.wipe σ4 vs1 := (w8 vs1 hs1).trans (wipe_wipe σ4 vs1 vs1 fun _ h => h)
                refine ⟨w8', ht1 _ ρ8 σ8 R8 H8 ok8' _ ?_⟩
                rcases hz with ⟨e1, ez⟩ | ⟨y, ρ5, e1, e2, ez⟩
                · rw [e1]
                  rw [ez] at q7
                  intro R9 H9 g9 ok9
                  have gg := (g8.trans g9)
                  exact ⟨wipeE ρ9 vs1, R9, ws7, acc7, g7.trans gg.unguard, s7.trans gg.1, gg.still p7, ra7.mono gg.1, ok9.wipe (σ' := σ4) hv1' w8'.symm, q7⟩
                · rw [e1]
                  rw [ez] at q7
                  intro R9 H9 g9 ok9
                  refine he _ ρ5 σ8 R9 H9 ok9 _ ?_
                  rw [e2]
                  intro v R10 H10 g10 ok10 r10
                  dsimp only at q7
                  by_cases hacc : acc7.length < 100000
                  · rw [if_pos hacc] at q7
                    have gg := ((g8.trans g9).trans g10)
                    have rP := gg.still p7
                    exact ⟨ws7, ok10.keep _ _ upd_same, by rw [ra7.1]; exact Nat.lt_of_lt_of_le hacc (by decide), wipeE ρ9 vs1, R10, ws7 ++ [v], acc7 ++ [y], g7.trans gg.unguard, s7.trans gg.1, rP, (ra7.mono gg.1).snoc r10, (ok10.reguard rP).wipe (σ' := σ4) hv1' w8'.symm, q7⟩
                  · rw [if_neg hacc] at q7
                    exact q7.elim
            · rw [List.drop_eq_nil_of_le (by omega), lcGo] at q7
              refine .inl ⟨no1 (by omega), ?_⟩
              exact ⟨wipeE ρ7 vs, R7, ws7, acc7, g7, p7, ra7, ok7.wipe (σ' := σ) hv w4'.symm, q7⟩
  · dsimp only [Owed] at q2
    rw [List.drop_eq_nil_of_le (by omega), lc2Go] at q2
    exact .inl ⟨no (by omega), q2 (.ref P) R2 H2 (gr1.trans g2) (ok2.unguard h0 r2 ra) ok2.len.symm⟩
end
end Y

namespace Y
open PySem PySem.Spec PyProof.Rows L2
section
variable {K : PySem.W.Frag} {ct : CT} {ms : List Nat} {W : WX} {H0 R R' H H' : Hp} {vp : Nat → V} {ρ : Env} {σ : L2.St}
/-! ### calls: an argument is a slot that is lent, or a value -/
abbrev Arg := Sum Nat D
def ArgOk (K : PySem.W.Frag) (ct : CT) (σ : L2.St) (R : Hp) (v : V) : Arg → Prop
  | .inl i => σ[i]? = some (some v)
  | .inr d => Rep K ct.b R v d
def ArgsOk (K : PySem.W.Frag) (ct : CT) (σ : L2.St) (R : Hp) (vs : List V) (as : List Arg) : Prop := vs.length = as.length ∧ ∀ (k : Nat) (v : V) (a : Arg), vs[k]? = some v → as[k]? = some a → ArgOk K ct σ R v a
theorem ArgsOk.cons {v : V} {a : Arg} {vs : List V} {as : List Arg} (h : ArgOk K ct σ R v a) (t : ArgsOk K ct σ R vs as) : ArgsOk K ct σ R (v :: vs) (a :: as) := by
  refine ⟨by simp [t.1], fun k w b x y => ?_⟩
  cases k with
  | zero =>
    cases (show v = w by simpa using x)
    cases (show a = b by simpa using y)
    exact h
  | succ k => exact t.2 k w b (by simpa using x) (by simpa using y)
def SimB (K : PySem.W.Frag) (ct : CT) (ms : List Nat) (vp : Nat → V) (W : WX) (t : TA) (f : M (List Arg)) : Prop := ∀ H0 ρ σ R H, Ok K ct H0 ms vp ρ σ R H → ∀ Q : List V → Hp → Prop, Po K ct ms vp W H0 σ R (fun as ρ' => ∀ vs R' H', Gr H0 R R' → Ok K ct H0 ms vp ρ' σ R' H' → ArgsOk K ct σ R' vs as → Q vs H') (f ρ) → t σ H Q
def bNil : M (List Arg) := mP []
def bCons (f : M D) (g : M (List Arg)) : M (List Arg) := mB f fun x => mB g fun xs => mP (.inr x :: xs)
def bSlot (i : Nat) (g : M (List Arg)) : M (List Arg) := mB (mGet fun ρ => (ρ[i]?).join) fun _ => mB g fun xs => mP (.inl i :: xs)
theorem sim_bnil : SimB K ct ms vp W tNil bNil := fun H0 ρ σ R H ok Q q => q [] R H (Gr.refl _ _) ok ⟨rfl, fun k v a x _ => by simp at x⟩
theorem sim_bcons {ta : TE} {tr : TA} {f : M D} {g : M (List Arg)} (hf : SimF K ct ms vp W ta f) (hg : SimB K ct ms vp W tr g) : SimB K ct ms vp W (tCons ta tr) (bCons f g) := fun H0 ρ σ R H ok Q q =>
  hf H0 ρ σ R H ok _ (Po.mono (Po.bind q) fun d ρ1 q v R1 H1 g1 ok1 r1 =>
    hg H0 ρ1 σ R1 H1 ok1 _ (Po.gr g1 (Po.bind q) fun ds ρ2 q vs R2 H2 g2 ok2 r2 =>
      q (v :: vs) R2 H2 (g1.trans g2) ok2 (.cons (r1.mono g2.1) r2)))
theorem sim_bslot {i : Nat} {tr : TA} {g : M (List Arg)} (hg : SimB K ct ms vp W tr g) : SimB K ct ms vp W (tCons (tVar i) tr) (bSlot i g) := fun H0 ρ σ R H ok Q q => by
  obtain ⟨d, e, q⟩ := Po.get (Po.bind q)
  obtain ⟨F, f1, _, _⟩ := ok.own
  obtain ⟨v, x, _⟩ := f1 i d (by
    cases h : ρ[i]? with
    | none => rw [h] at e; cases e
    | some y =>
      rw [h] at e
      cases y with
      | none => cases e
      | some z => cases e; rfl)
  exact ⟨v, x, hg H0 ρ σ R H ok _ (Po.mono (Po.bind q) fun ds ρ2 q vs R2 H2 g2 ok2 r2 => q (v :: vs) R2 H2 g2 ok2 (.cons x r2))⟩
def brw : Nat → List Arg → List (Nat × Nat)
  | _, [] => []
  | n, .inl i :: as => (n, i) :: brw (n + 1) as
  | n, .inr _ :: as => brw (n + 1) as
theorem brw_mem {p i : Nat} : ∀ {as : List Arg} {n : Nat}, (p, i) ∈ brw n as → n ≤ p ∧ as[p - n]? = some (.inl i)
  | [], n, h => by simp [brw] at h
  | .inl j :: as, n, h => by
    rw [brw] at h
    cases h with
    | head => exact ⟨Nat.le_refl _, by simp⟩
    | tail _ h =>
      obtain ⟨a, b⟩ := brw_mem h
      refine ⟨by omega, ?_⟩
      rw [show p - n = (p - (n + 1)) + 1 by omega]
      simpa using b
  | .inr d :: as, n, h => by
    rw [brw] at h
    obtain ⟨a, b⟩ := brw_mem h
    refine ⟨by omega, ?_⟩
    rw [show p - n = (p - (n + 1)) + 1 by omega]
    simpa using b
theorem brw_of {i : Nat} : ∀ {as : List Arg} {n k : Nat}, as[k]? = some (.inl i) → (n + k, i) ∈ brw n as
  | [], n, k, h => by simp at h
  | .inl j :: as, n, 0, h => by
    rw [brw]
    cases (show j = i by simpa using h)
    exact .head _
  | .inr d :: as, n, 0, h => by simp at h
  | .inl j :: as, n, k + 1, h => by
    rw [brw]
    have := brw_of (n := n + 1) (k := k) (as := as) (by simpa using h)
    rw [show n + 1 + k = n + (k + 1) by omega] at this
    exact .tail _ this
  | .inr j :: as, n, k + 1, h => by
    rw [brw]
    have := brw_of (n := n + 1) (k := k) (as := as) (by simpa using h)
    rw [show n + 1 + k = n + (k + 1) by omega] at this
    exact this
def putW : List Nat → List D → Env → Env
  | i :: is, d :: w, ρ => putW is w (ρ.set i (some d))
  | _, _, ρ => ρ
theorem putW_length : ∀ (is : List Nat) (w : List D) (ρ : Env), (putW is w ρ).length = ρ.length
  | [], _, ρ => rfl
  | _ :: _, [], ρ => rfl
  | i :: is, d :: w, ρ => by rw [putW, putW_length]; simp
theorem putW_out {j : Nat} : ∀ {is : List Nat} {w : List D} {ρ : Env}, j ∉ is → (putW is w ρ)[j]? = ρ[j]?
  | [], _, ρ, _ => rfl
  | _ :: _, [], ρ, _ => rfl
  | i :: is, d :: w, ρ, h => by
    rw [putW, putW_out (fun z => h (.tail _ z)), List.getElem?_set_ne fun e => h (by rw [e]; exact .head _)]
theorem putW_in {j k : Nat} : ∀ {is : List Nat} {w : List D} {ρ : Env}, is.Nodup → is[k]? = some j → j < ρ.length → k < w.length → (putW is w ρ)[j]? = (w[k]?).map some
  | [], _, ρ, _, h, _, _ => by simp at h
  | _ :: _, [], ρ, _, _, _, h => by simp at h
  | i :: is, d :: w, ρ, nd, h, hj, hk => by
    rw [putW]
    cases k with
    | zero =>
      cases (show i = j by simpa using h)
      rw [putW_out (List.nodup_cons.mp nd).1, List.getElem?_set_self hj]
      rfl
    | succ k =>
      rw [putW_in (k := k) (List.nodup_cons.mp nd).2 (by simpa using h) (by simpa using hj) (by simpa using hk)]
      rfl
def argD (ρ : Env) : Arg → Option D
  | .inl i => (ρ[i]?).join
  | .inr d => some d
def argsD (ρ : Env) : List Arg → Option (List D)
  | [] => some []
  | a :: as => match argD ρ a, argsD ρ as with
    | some d, some ds => some (d :: ds)
    | _, _ => none
theorem argsD_at : ∀ {as : List Arg} {ds : List D}, argsD ρ as = some ds → ds.length = as.length ∧ ∀ (k : Nat) (d : D), ds[k]? = some d → ∃ a, as[k]? = some a ∧ argD ρ a = some d
  | [], ds, h => by
    cases h
    exact ⟨rfl, fun k d h => by simp at h⟩
  | a :: as, ds, h => by
    rw [argsD] at h
    split at h
    · rename_i d es e1 e2
      cases h
      obtain ⟨l, f⟩ := argsD_at e2
      refine ⟨by simp [l], fun k d' h => ?_⟩
      cases k with
      | zero =>
        cases (show d = d' by simpa using h)
        exact ⟨a, rfl, e1⟩
      | succ k =>
        obtain ⟨b, x, y⟩ := f k d' (by simpa using h)
        exact ⟨b, by simpa using x, y⟩
    · cases h
/-- the values that stand in the lent places -/
def pickV (ms : List Nat) (vs : List V) : List V := ms.map fun i => vs.getD i .non
/-- a def that does what m says: the parameters of ms are lent -/
def SpM (K : PySem.W.Frag) (ct : CTB) (ms : List Nat) (m : List D → Ans) : Sp := fun vs H Q E => ∃ H0 R ds, Ok K ct.triv H0 [] (fun _ => .non) (ds.map some) (vs.map some) R H ∧ match m ds with
  | .ok d w => ∀ v R' H', Gr H0 R R' → w.length = ms.length → Ok K ct.triv H0 [] (fun _ => .non) (w.map some ++ [some d]) ((pickV ms vs).map some ++ [some v]) R' H' → Q v H'
  | .ex c x w => ∀ od R' H', Gr H0 R R' → w.length = ms.length → Ok K ct.triv H0 [] (fun _ => .non) (w.map some) ((pickV ms vs).map some) R' H' → XOk K ct R' c x od → E (.ref (ct.err c)) od H'
  | .st => False
/-- behind a call: what was lent has come back -/
theorem Ok.back {as : List Arg} {vs : List V} {ds : List D} {I : List Nat} {ms' : List Nat} (ok : Ok K ct H0 ms vp ρ σ R H) (ha : ArgsOk K ct σ R vs as) (hd : argsD ρ as = some ds) (hm : (brw 0 as).map (·.1) = ms') (hI : (brw 0 as).map (·.2) = I) (nd : I.Nodup) :
    ∃ H1, Ok K ct H1 [] (fun _ => .non) (ds.map some) (vs.map some) R H ∧ ∀ w R' H', Gr H1 R R' → w.length = ms'.length →
      Gr H0 R R' ∧ (∀ y u, Ok K ct H1 [] (fun _ => .non) (w.map some ++ [y]) ((pickV ms' vs).map some ++ [u]) R' H' → Ok K ct H0 ms vp (putW I w ρ ++ [y]) (σ ++ [u]) R' H') ∧
      (Ok K ct H1 [] (fun _ => .non) (w.map some) ((pickV ms' vs).map some) R' H' → Ok K ct H0 ms vp (putW I w ρ) σ R' H') := by
  obtain ⟨s, k, iv, l, pi, F, f1, f2, f3⟩ := id ok
  classical
  obtain ⟨ld, fd⟩ := argsD_at hd
  -- the n-th lent place
  have lent : ∀ n i, I[n]? = some i → ∃ p v, ms'[n]? = some p ∧ as[p]? = some (Sum.inl i : Arg) ∧ vs[p]? = some v ∧ σ[i]? = some (some v) := fun n i h => by
    rw [← hI, List.getElem?_map] at h
    obtain ⟨⟨p, j⟩, h1, h2⟩ := Option.map_eq_some_iff.mp h
    cases (show j = i from h2)
    obtain ⟨_, h3⟩ := brw_mem (List.mem_of_getElem? h1)
    rw [Nat.sub_zero] at h3
    have hp : p < vs.length := by rw [ha.1]; exact (List.getElem?_eq_some_iff.mp h3).1
    refine ⟨p, vs[p], by rw [← hm, List.getElem?_map, h1]; rfl, h3, List.getElem?_eq_getElem hp, ?_⟩
    exact ha.2 p _ _ (List.getElem?_eq_getElem hp) h3
  have inI : ∀ p i, as[p]? = some (Sum.inl i : Arg) → i ∈ I := fun p i h => by
    rw [← hI]
    exact List.mem_map.mpr ⟨(0 + p, i), brw_of h, rfl⟩
  have lIm : I.length = ms'.length := by rw [← hI, ← hm]; simp
  refine ⟨fun b => if ∃ i ∈ I, F i b then none else H b, ⟨s, fun b o q => ?_, iv, by simp [ha.1, ld], fun i hi => (by cases hi), fun n b => ∃ i, as[n]? = some (Sum.inl i : Arg) ∧ F i b, fun n d h => ?_, fun n m b ne => ?_, fun n b => ?_⟩, fun w R' H' g lw => ?_⟩
  · try dsimp only at q
    split at q
    · cases q
    · exact q
  · rw [List.getElem?_map] at h
    obtain ⟨d', h1, h2⟩ := Option.map_eq_some_iff.mp h
    cases h2
    obtain ⟨a, h3, h4⟩ := fd n d h1
    have hn : n < vs.length := by rw [ha.1]; exact (List.getElem?_eq_some_iff.mp h3).1
    have av := ha.2 n _ a (List.getElem?_eq_getElem hn) h3
    refine ⟨vs[n], by rw [List.getElem?_map, List.getElem?_eq_getElem hn]; rfl, ?_⟩
    cases a with
    | inr e => cases h4; exact .fz av
    | inl i =>
      have hi : ρ[i]? = some (some d) := by
        simp only [argD] at h4
        cases e : ρ[i]? with
        | none => rw [e] at h4; cases h4
        | some y =>
          rw [e] at h4
          cases y with
          | none => cases h4
          | some z => cases h4; rfl
      obtain ⟨v, x, y⟩ := f1 i d hi
      have : vs[n] = v := by
        have := (show σ[i]? = some (some vs[n]) from av).symm.trans x
        cases this
        rfl
      rw [this]
      exact y.monoF fun b gb => ⟨i, h3, gb⟩
  · rintro ⟨i, x, gx⟩ ⟨j, y, gy⟩
    by_cases e : i = j
    · subst e
      -- one slot is lent twice: no
      obtain ⟨p, hp⟩ := List.getElem?_of_mem (inI n i x)
      have m1 : (0 + n, i) ∈ brw 0 as := brw_of x
      have m2 : (0 + m, i) ∈ brw 0 as := brw_of y
      obtain ⟨p1, e1⟩ := List.getElem?_of_mem m1
      obtain ⟨p2, e2⟩ := List.getElem?_of_mem m2
      have i1 : I[p1]? = some i := by rw [← hI, List.getElem?_map, e1]; rfl
      have i2 : I[p2]? = some i := by rw [← hI, List.getElem?_map, e2]; rfl
      have hp1 := (List.getElem?_eq_some_iff.mp i1).1
      have ep : p1 = p2 := (List.getElem?_inj hp1 nd).mp (i1.trans i2.symm)
      subst ep
      rw [e1] at e2
      have e3 := congrArg Prod.fst (Option.some.inj e2)
      dsimp only at e3
      omega
    · exact f2 i j b e gx gy
  · rintro ⟨i, x, gx⟩
    obtain ⟨a, b', c⟩ := f3 i b gx
    exact ⟨a, b', if_pos ⟨i, inI n i x, gx⟩⟩
  · have n0 : ∀ b, (if ∃ i ∈ I, F i b then none else H b) = none → H0 b = none := fun b z => by
      by_cases e : ∃ i ∈ I, F i b
      · obtain ⟨i, _, gi⟩ := e
        exact (f3 i b gi).2.2
      · rw [if_neg e] at z
        exact k.free z
    have g0 : Gr H0 R R' := ⟨g.1, fun b z => (g.2 b z).imp id (n0 b)⟩
    -- the slots that were not lent stay
    have stay : ∀ i, i ∉ I → ∀ b, F i b → (∀ o, H b = some o → (if ∃ i ∈ I, F i b then none else H b) = some o) ∧ R' b = none := fun i hi b gi => by
      have no : ¬ ∃ j ∈ I, F j b := fun ⟨j, hj, gj⟩ => f2 i j b (fun e => hi (by rw [e]; exact hj)) gi gj
      refine ⟨fun o q => by rw [if_neg no]; exact q, ?_⟩
      cases e : R' b with
      | none => rfl
      | some x =>
        rcases g.2 b (by rw [e]; exact Option.some_ne_none _) with z | z
        · exact absurd (f3 i b gi).1 z
        · have z' : (if ∃ i ∈ I, F i b then none else H b) = none := z
          rw [if_neg no] at z'
          exact absurd z' (f3 i b gi).2.1
    have main : ∀ (ys : Env) (us : L2.St), ys.length = us.length → Ok K ct (fun b => if ∃ i ∈ I, F i b then none else H b) [] (fun _ => .non) (w.map some ++ ys) ((pickV ms' vs).map some ++ us) R' H' → Ok K ct H0 ms vp (putW I w ρ ++ ys) (σ ++ us) R' H' := fun ys us lys ok2 => by
      obtain ⟨s2, k2, iv2, l2, _, F2, h1, h2, h3⟩ := ok2
      have lw2 : (w.map some).length = I.length := by rw [List.length_map, lw, lIm]
      refine ⟨s2, fun b o q => ?_, iv2, by rw [List.length_append, List.length_append, putW_length, l, lys], fun i hi => ?_, fun j b => (∃ n, I[n]? = some j ∧ F2 n b) ∨ (j ∉ I ∧ j < ρ.length ∧ F j b) ∨ (∃ m, j = ρ.length + m ∧ j ∉ I ∧ F2 (I.length + m) b), fun j d q => ?_, fun i j b ne x y => ?_, fun j b q => ?_⟩
      · have hb := k b o q
        refine k2 b o ?_
        by_cases e : ∃ i ∈ I, F i b
        · obtain ⟨i, _, gi⟩ := e
          rw [(f3 i b gi).2.2] at q
          cases q
        · show (if ∃ i ∈ I, F i b then none else H b) = some o
          rw [if_neg e]
          exact hb
      · have q := pi i hi
        have z : i < σ.length := (List.getElem?_eq_some_iff.mp q).1
        rw [List.getElem?_append_left z]
        exact q
      · by_cases z : j < ρ.length
        · rw [List.getElem?_append_left (by rw [putW_length]; exact z)] at q
          rw [List.getElem?_append_left (by rw [l]; exact z)]
          by_cases hj : j ∈ I
          · obtain ⟨n, hn⟩ := List.getElem?_of_mem hj
            have hnl : n < w.length := by
              have := (List.getElem?_eq_some_iff.mp hn).1
              omega
            rw [putW_in nd hn z hnl] at q
            obtain ⟨d', e1, e2⟩ := Option.map_eq_some_iff.mp q
            cases e2
            obtain ⟨p, v, m1, m2, m3, m4⟩ := lent n j hn
            obtain ⟨v', x, y⟩ := h1 n d (by rw [List.getElem?_append_left (by simpa using hnl), List.getElem?_map, e1]; rfl)
            have hpv : ((pickV ms' vs).map some ++ us)[n]? = some (some v) := by
              have hml : n < ms'.length := (List.getElem?_eq_some_iff.mp m1).1
              rw [List.getElem?_append_left (by simpa [pickV] using hml), List.getElem?_map]
              unfold pickV
              rw [List.getElem?_map, m1]
              simp [List.getD, m3]
            cases hpv.symm.trans x
            exact ⟨v, m4, y.monoF fun b gb => .inl ⟨n, hn, gb⟩⟩
          · rw [putW_out hj] at q
            obtain ⟨v, x, y⟩ := f1 j d q
            refine ⟨v, x, ((y.monoR g.1).monoH fun b o gb q' => ?_).monoF fun b gb => .inr (.inl ⟨hj, z, gb⟩)⟩
            exact k2 b o ((stay j hj b gb).1 o q')
        · have hj : j ∉ I := fun hj => by
            obtain ⟨n, hn⟩ := List.getElem?_of_mem hj
            obtain ⟨p, v, m1, m2, m3, m4⟩ := lent n j hn
            have := (List.getElem?_eq_some_iff.mp m4).1
            omega
          rw [List.getElem?_append_right (by rw [putW_length]; omega), putW_length] at q
          obtain ⟨v, x, y⟩ := h1 (I.length + (j - ρ.length)) d (by
            rw [List.getElem?_append_right (by omega), lw2]
            rw [show I.length + (j - ρ.length) - I.length = j - ρ.length by omega]
            exact q)
          refine ⟨v, ?_, y.monoF fun b gb => .inr (.inr ⟨j - ρ.length, by omega, hj, gb⟩)⟩
          rw [List.getElem?_append_right (by omega), l]
          have lp : ((pickV ms' vs).map some).length = I.length := by unfold pickV; simp [lIm]
          rw [List.getElem?_append_right (by omega), lp, show I.length + (j - ρ.length) - I.length = j - ρ.length by omega] at x
          exact x
      · have old : ∀ (i j : Nat) (b : Addr), (i ∉ I ∧ i < ρ.length ∧ F i b) → ∀ n, ¬ F2 n b := fun i j b ⟨hi, _, gi⟩ n gn => by
          have no : ¬ ∃ j ∈ I, F j b := fun ⟨j, hj, gj⟩ => f2 i j b (fun e => hi (by rw [e]; exact hj)) gi gj
          have z : (if ∃ i ∈ I, F i b then none else H b) = none := (h3 n b gn).2.2
          rw [if_neg no] at z
          exact (f3 i b gi).2.1 z
        rcases x with ⟨n, x1, x2⟩ | x | ⟨m, x1, x2, x3⟩ <;> rcases y with ⟨n', y1, y2⟩ | y | ⟨m', y1, y2, y3⟩
        · exact h2 n n' b (fun e => ne (by subst e; exact Option.some.inj (x1.symm.trans y1))) x2 y2
        · exact old j i b y n x2
        · have := (List.getElem?_eq_some_iff.mp x1).1
          exact h2 n _ b (by omega) x2 y3
        · exact old i j b x n' y2
        · exact f2 i j b ne x.2.2 y.2.2
        · exact old i j b x _ y3
        · have := (List.getElem?_eq_some_iff.mp y1).1
          exact h2 n' _ b (by omega) y2 x3
        · exact old j i b y _ x3
        · exact h2 _ _ b (by omega) x3 y3
      · rcases q with ⟨n, _, q⟩ | ⟨hj, _, q⟩ | ⟨m, _, _, q⟩
        · obtain ⟨a, b', c⟩ := h3 _ b q
          exact ⟨a, b', n0 b c⟩
        · obtain ⟨st1, st2⟩ := stay j hj b q
          obtain ⟨a, b', c⟩ := f3 j b q
          refine ⟨st2, ?_, c⟩
          cases e : H b with
          | none => exact absurd e b'
          | some o => rw [k2 b o (st1 o e)]; exact Option.some_ne_none _
        · obtain ⟨a, b', c⟩ := h3 _ b q
          exact ⟨a, b', n0 b c⟩
    refine ⟨g0, fun y u o => main [y] [u] rfl o, fun o => ?_⟩
    have := main [] [] rfl (by simpa using o)
    simpa using this
/-- a call -/
def mCall (ms' : List Nat) (m : List D → Ans) (f : M (List Arg)) : M D := mB f fun as => mB (mGet fun ρ => argsD ρ as) fun ds =>
  if (brw 0 as).map (·.1) = ms' ∧ ((brw 0 as).map (·.2)).Nodup then fun ρ => match m ds with
    | .ok d w => if w.length = ms'.length then .ok d (putW ((brw 0 as).map (·.2)) w ρ) else .st
    | .ex c x w => if w.length = ms'.length then .ex c x (putW ((brw 0 as).map (·.2)) w ρ) else .st
    | .st => .st
  else fun _ => .st
/-- a call that lets no error out -/
def noX (m : List D → Ans) : List D → Ans := fun ds => match m ds with
  | .ok d w => .ok d w
  | _ => .st
theorem call_core {ms' : List Nat} {m : List D → Ans} {f : M (List Arg)} {ta : TA} {S : L2.St → List V → Hp → VK → Prop} (hf : SimB K ct ms vp W ta f)
    (hu : ∀ σ vs H Q, SpM K ct.b ms' m vs H Q (WE W σ) → S σ vs H Q) : SimE K ct ms vp W (fun σ H Q => ta σ H fun vs H1 => S σ vs H1 Q) (mCall ms' m f) := fun H0 ρ σ R H ok Q q => by
  refine hf H0 ρ σ R H ok _ (Po.mono (Po.bind q) fun as ρ1 q vs R1 H1 g1 ok1 r1 => hu σ vs H1 Q ?_)
  obtain ⟨ds, e, q⟩ := Po.get (Po.bind q)
  split at q
  · rename_i hc
    obtain ⟨HX, okX, back⟩ := ok1.back r1 e hc.1 rfl hc.2
    refine ⟨HX, R1, ds, okX.cast rfl trivial, ?_⟩
    cases em : m ds with
    | st => rw [em] at q; exact q.elim
    | ok d w =>
      rw [em] at q
      intro v R2 H2 g2 lw ok2
      obtain ⟨g3, b1, _⟩ := back w R2 H2 g2 lw
      dsimp only at q
      rw [if_pos lw] at q
      exact q v R2 H2 (g1.trans g3) (b1 _ _ (ok2.cast rfl (ct.mono _ _ g2.1 okX.inv))) (by rw [putW_length]; exact ok1.len.symm)
    | ex c x w =>
      rw [em] at q
      intro od R2 H2 g2 lw ok2 xo
      obtain ⟨g3, _, b2⟩ := back w R2 H2 g2 lw
      dsimp only at q
      rw [if_pos lw] at q
      exact q od R2 H2 (g1.trans g3) (b2 (ok2.cast rfl (ct.mono _ _ g2.1 okX.inv))) xo
  · exact q.elim
/-- a promise about a def that lets no error out -/
theorem SpM.noX {ms' : List Nat} {m : List D → Ans} {vs : List V} {H : Hp} {Q : VK} {E : XK} (h : SpM K ct.b ms' (noX m) vs H Q E) (E' : XK) : SpM K ct.b ms' m vs H Q E' := by
  obtain ⟨H0, R, ds, ok, q⟩ := h
  refine ⟨H0, R, ds, ok, ?_⟩
  unfold Y.noX at q
  cases e : m ds with
  | ok d w => rw [e] at q; exact q
  | ex c x w => rw [e] at q; exact q.elim
  | st => rw [e] at q; exact q.elim
theorem sim_callS {ms' : List Nat} {m : List D → Ans} {f : M (List Arg)} {ta : TA} (hf : SimB K ct ms vp W ta f) : SimE K ct ms vp W (tCallS (SpM K ct.b ms' m) (WE W) ta) (mCall ms' m f) :=
  call_core hf fun σ vs H Q h => h
theorem sim_call0 {ms' : List Nat} {m : List D → Ans} {f : M (List Arg)} {ta : TA} {E : XK} (hf : SimB K ct ms vp W ta f) : SimE K ct ms vp W (tCall (SpM K ct.b ms' m) [] E ta) (mCall ms' (noX m) f) :=
  call_core hf fun σ vs H Q h => by
    show SpM K ct.b ms' m (vs ++ []) H Q E
    rw [List.append_nil]
    exact h.noX E
/-! ### defs -/
def getW (ms : List Nat) (ρ : Env) : Option (List D) := argsD ρ (ms.map Sum.inl)
def mkFn (np n : Nat) (ms : List Nat) (body : Stm) : List D → Ans := fun ds => if ds.length = np then (match body (ds.map some ++ List.replicate (n - ds.length) none) with
    | .nx ρ => match getW ms ρ with
      | some w => .ok .non w
      | none => .st
    | .rt d ρ => match getW ms ρ with
      | some w => .ok d w
      | none => .st
    | .ex c x ρ => match getW ms ρ with
      | some w => .ex c x w
      | none => .st
    | _ => .st) else .st
theorem getW_at {w : List D} (h : getW ms ρ = some w) : w.length = ms.length ∧ ∀ (k : Nat) (d : D), w[k]? = some d → ∃ i, ms[k]? = some i ∧ ρ[i]? = some (some d) := by
  obtain ⟨l, f⟩ := argsD_at h
  refine ⟨by simpa using l, fun k d hk => ?_⟩
  obtain ⟨a, h1, h2⟩ := f k d hk
  rw [List.getElem?_map] at h1
  obtain ⟨i, h3, h4⟩ := Option.map_eq_some_iff.mp h1
  subst h4
  refine ⟨i, h3, ?_⟩
  simp only [argD] at h2
  cases e : ρ[i]? with
  | none => rw [e] at h2; cases h2
  | some y =>
    rw [e] at h2
    cases y with
    | none => cases h2
    | some z => cases h2; rfl
/-- what was lent, and more -/
theorem Ok.hand {vs : List V} {w : List D} {ys : Env} {us : L2.St} (ok : Ok K ct H0 ms vp (ρ ++ ys) (σ ++ us) R H) (l : ρ.length = σ.length) (lys : ys.length = us.length) (hvp : ∀ i ∈ ms, vp i = vs.getD i .non) (hlt : ∀ i ∈ ms, i < σ.length) (nd : ms.Nodup) (h : getW ms ρ = some w) :
    Ok K ct H0 [] (fun _ => .non) (w.map some ++ ys) ((pickV ms vs).map some ++ us) R H := by
  obtain ⟨lw, f⟩ := getW_at h
  have lp : ((pickV ms vs).map some).length = ms.length := by simp [pickV]
  refine ok.sel (fun k => if k < ms.length then ms.getD k 0 else ρ.length + (k - ms.length)) (by simp [pickV, lw, lys]) (fun i hi => (by cases hi)) (fun k d q => ?_) (fun k k' hk hk' e => ?_)
  · by_cases z : k < ms.length
    · rw [List.getElem?_append_left (by simpa [lw] using z), List.getElem?_map] at q
      obtain ⟨d', e1, e2⟩ := Option.map_eq_some_iff.mp q
      cases e2
      obtain ⟨i, h1, h2⟩ := f k d e1
      have hi : i ∈ ms := List.mem_of_getElem? h1
      have ei : ms.getD k 0 = i := by simp [List.getD, h1]
      rw [if_pos z, ei, List.getElem?_append_left (List.getElem?_eq_some_iff.mp h2).1, List.getElem?_append_left (by omega)]
      refine ⟨h2, ?_⟩
      have p := ok.pins i hi
      rw [p, List.getElem?_map]
      unfold pickV
      rw [List.getElem?_map, h1, hvp i hi]
      rfl
    · rw [if_neg z]
      have hw : (w.map some).length = ms.length := by simp [lw]
      rw [List.getElem?_append_right (by omega), hw] at q
      rw [List.getElem?_append_right (by omega), List.getElem?_append_right (by omega), lp, List.getElem?_append_right (by omega)]
      rw [show ρ.length + (k - ms.length) - ρ.length = k - ms.length by omega, show ρ.length + (k - ms.length) - σ.length = k - ms.length by omega]
      exact ⟨q, rfl⟩
  · have hm : ∀ j, j < ms.length → ms.getD j 0 < σ.length := fun j hj => by
      have : ms.getD j 0 = ms[j] := by simp [List.getD, hj]
      rw [this]
      exact hlt _ (List.getElem_mem hj)
    try dsimp only at e
    split at e <;> split at e
    · rename_i h1 h2
      have e1 : ms.getD k 0 = ms[k] := by simp [List.getD, h1]
      have e2 : ms.getD k' 0 = ms[k'] := by simp [List.getD, h2]
      rw [e1, e2] at e
      exact (List.getElem_inj nd).mp e
    · have := hm k (by assumption); omega
    · have := hm k' (by assumption); omega
    · omega
end
section
variable {K : PySem.W.Frag} {ct : CTB} {ms : List Nat}
/-- a def's body keeps the promise -/
theorem sim_fn {np : Nat} {body : Stm} {t : TS} {N : List Str} {vs : List V} {Q : VK} {E : XK} (hs : SimS K ct.triv ms (fun i => vs.getD i .non) (fun cls d _ H => E cls d H) t body) (hm : ms.all (fun i => decide (i < np)) = true) (nd : ms.Nodup)
    (h : SpM K ct ms (mkFn np N.length ms body) vs H Q E) : t { nx := fun _ H' => Q .non H', rt := Q } (L2.start N vs) H := by
  obtain ⟨H0, R, ds, ok, q⟩ := h
  unfold mkFn at q
  have lv : vs.length = ds.length := by simpa using ok.len
  have hl : ds.length = np := by
    by_cases hl : ds.length = np
    · exact hl
    · rw [if_neg hl] at q; exact q.elim
  rw [if_pos hl] at q
  have hlt : ∀ i ∈ ms, i < vs.length := fun i hi => by
    have := List.all_eq_true.mp hm i hi
    have := of_decide_eq_true this
    omega
  have ok0 : Ok K ct.triv H0 ms (fun i => vs.getD i .non) (ds.map some ++ List.replicate (N.length - ds.length) none) (L2.start N vs) R H := by
    unfold L2.start
    rw [lv]
    refine ok.sel id (by simp [lv]) (fun i hi => ?_) (fun k d h => ?_) fun k k' _ _ e => e
    · have := hlt i hi
      rw [List.getElem?_append_left (by simpa using this), List.getElem?_map]
      simp [List.getD, this]
    · by_cases z : k < ds.length
      · rw [List.getElem?_append_left (by simpa using z)] at h
        refine ⟨h, ?_⟩
        rw [List.getElem?_append_left (by simpa [lv] using z)]
        rfl
      · rw [List.getElem?_append_right (by simpa using z), List.getElem?_replicate] at h
        split at h <;> cases h
  refine hs H0 _ _ R H ok0 _ ?_
  cases e : body (ds.map some ++ List.replicate (N.length - ds.length) none) with
  | nx ρ' =>
    rw [e] at q
    dsimp only at q
    cases ew : getW ms ρ' with
    | none => rw [ew] at q; exact q.elim
    | some w =>
      rw [ew] at q
      intro σ' R' H' g ok'
      exact q .non R' H' g (getW_at ew).1 ((ok'.temp .non).hand ok'.len.symm rfl (fun i _ => rfl) ok'.mslt nd ew)
  | rt d ρ' =>
    rw [e] at q
    dsimp only at q
    cases ew : getW ms ρ' with
    | none => rw [ew] at q; exact q.elim
    | some w =>
      rw [ew] at q
      intro v σ' R' H' g ok' l
      refine q v R' H' g (getW_at ew).1 (ok'.hand l rfl (fun i _ => rfl) (fun i hi => ?_) nd ew)
      obtain ⟨_, f⟩ := getW_at ew
      obtain ⟨k, hk⟩ := List.getElem?_of_mem hi
      have hkw : k < w.length := by
        rw [(getW_at ew).1]
        exact (List.getElem?_eq_some_iff.mp hk).1
      obtain ⟨i', h1, h2⟩ := f k w[k] (List.getElem?_eq_getElem hkw)
      cases hk.symm.trans h1
      have := (List.getElem?_eq_some_iff.mp h2).1
      omega
  | ex c x ρ' =>
    rw [e] at q
    dsimp only at q
    cases ew : getW ms ρ' with
    | none => rw [ew] at q; exact q.elim
    | some w =>
      rw [ew] at q
      intro od σ' R' H' g ok' xo
      have := (show Ok K ct.triv H0 ms _ (ρ' ++ []) (σ' ++ []) R' H' by simpa using ok').hand ok'.len.symm rfl (fun i _ => rfl) ok'.mslt nd ew
      exact q od R' H' g (getW_at ew).1 (by simpa using this) xo
  | bk ρ' => rw [e] at q; exact q.elim
  | ct ρ' => rw [e] at q; exact q.elim
  | st => rw [e] at q; exact q.elim
/-- as many arguments as parameters -/
theorem SpM.len {np n : Nat} {body : Stm} {vs : List V} {Q : VK} {E : XK} (h : SpM K ct ms (mkFn np n ms body) vs H Q E) : vs.length = np := by
  obtain ⟨H0, R, ds, ok, q⟩ := h
  have lv : vs.length = ds.length := by simpa using ok.len
  unfold mkFn at q
  by_cases hl : ds.length = np
  · omega
  · rw [if_neg hl] at q; exact q.elim
end
end Y

namespace Y
open PySem PySem.Spec PyProof.Rows L2
section
variable {K : PySem.W.Frag} {b : CTB}
/-! ### operators -/
def oI0 (g : Int → Int → D) : D → D → Option D
  | .int i, .int j => some (g i j)
  | _, _ => none
/-- g as values, g' as data -/
theorem op_I0 {g : Int → Int → V} {g' : Int → Int → D} (h : ∀ i j R, Rep K b R (g i j) (g' i j)) : OpF K b (rI0 g) (oI0 g') := fun R H x y dx dy s rx ry Q q => by
  cases dx <;> cases dy <;> simp only [oI0] at q <;> try exact q.elim
  rename_i i j
  cases rx.int_inv; cases ry.int_inv
  exact ⟨i, j, rfl, rfl, q _ R H (Ext.refl s) (h i j R)⟩
def oI (C : Int → Int → Bool) (g : Int → Int → Int) : D → D → Option D
  | .int i, .int j => if C i j = true then some (.int (g i j)) else none
  | _, _ => none
theorem op_I {C : Int → Int → Prop} {C' : Int → Int → Bool} {g : Int → Int → Int} (h : ∀ i j, C' i j = true → C i j) : OpF K b (rI C fun i j => .int (g i j)) (oI C' g) := fun R H x y dx dy s rx ry Q q => by
  cases dx <;> cases dy <;> simp only [oI] at q <;> try exact q.elim
  rename_i i j
  cases rx.int_inv; cases ry.int_inv
  by_cases c : C' i j = true
  · rw [if_pos c] at q
    exact ⟨i, j, rfl, rfl, h i j c, q _ R H (Ext.refl s) (.int _)⟩
  · rw [if_neg c] at q
    exact q.elim
abbrev oAdd := oI0 fun i j => .int (i + j)
abbrev oSub := oI0 fun i j => .int (i - j)
abbrev oLt := oI0 fun i j => .bl (decide (i < j))
abbrev oLe := oI0 fun i j => .bl (decide (i ≤ j))
abbrev oGt := oI0 fun i j => .bl (decide (j < i))
abbrev oGe := oI0 fun i j => .bl (decide (j ≤ i))
theorem so_add : OpF K b (rI0 fun i j => .int (i + j)) oAdd := op_I0 fun _ _ _ => .int _
theorem so_sub : OpF K b (rI0 fun i j => .int (i - j)) oSub := op_I0 fun _ _ _ => .int _
theorem so_lt : OpF K b (rI0 fun i j => .bl (decide (i < j))) oLt := op_I0 fun _ _ _ => .bl _
theorem so_le : OpF K b (rI0 fun i j => .bl (decide (i ≤ j))) oLe := op_I0 fun _ _ _ => .bl _
theorem so_gt : OpF K b (rI0 fun i j => .bl (decide (j < i))) oGt := op_I0 fun _ _ _ => .bl _
theorem so_ge : OpF K b (rI0 fun i j => .bl (decide (j ≤ i))) oGe := op_I0 fun _ _ _ => .bl _
def big (i : Int) : Bool := decide (i.natAbs.log2 < 450000)
abbrev oMul := oI (fun i j => big i && big j) fun i j => i * j
abbrev oMod := oI (fun _ j => decide (0 < j)) fun i j => i % j
abbrev oDiv := oI (fun _ j => decide (0 < j) && decide (j.natAbs.log2 < 9000)) fun i j => i / j
abbrev oPow := oI (fun i j => decide (0 ≤ j) && (decide (j ≤ 1000000) && decide (i.natAbs < 2 ^ 64))) fun i j => i ^ j.toNat
theorem so_mul : OpF K b (rI CMulW fun i j => .int (i * j)) oMul := op_I fun i j h => by
  simp only [Bool.and_eq_true, big, decide_eq_true_eq] at h
  show i.natAbs.log2 + j.natAbs.log2 < 1000000
  omega
theorem so_mod : OpF K b (rI (fun _ j => 0 < j) fun i j => .int (i % j)) oMod := op_I fun i j h => by simpa using h
theorem so_div : OpF K b (rI CDivW fun i j => .int (i / j)) oDiv := op_I fun i j h => by simpa [CDivW] using h
theorem so_pow : OpF K b (rI CPow fun i j => .int (i ^ j.toNat)) oPow := op_I fun i j h => by
  simp only [Bool.and_eq_true, decide_eq_true_eq] at h
  exact h
/-- == of scalars -/
def eqS : D → D → Option Bool
  | .non, .non => some true | .non, .int _ => some false | .int _, .non => some false | .non, .bl _ => some false | .bl _, .non => some false | .non, .str _ => some false | .str _, .non => some false
  | .int i, .int j => some (decide (i = j)) | .bl i, .bl j => some (decide (i = j)) | .str i, .str j => some (decide (i = j))
  | .int _, .str _ => some false | .str _, .int _ => some false | .bl _, .str _ => some false | .str _, .bl _ => some false
  | _, _ => none
theorem eqS_some {R : Hp} {x y : V} {dx dy : D} {r : Bool} (h : eqS dx dy = some r) (rx : Rep K b R x dx) (ry : Rep K b R y dy) : scal x y = true ∧ decide (x = y) = r := by
  cases dx <;> cases dy <;> simp only [eqS] at h <;> try (cases h; done)
  all_goals cases rx
  all_goals cases ry
  all_goals cases h
  all_goals first
    | exact ⟨rfl, Y.dec_int⟩ | exact ⟨rfl, Y.dec_bl⟩ | exact ⟨rfl, Y.dec_str⟩
    | (refine ⟨rfl, ?_⟩; simp)
def oEq (x y : D) : Option D := (eqS x y).map D.bl
def oNe (x y : D) : Option D := (eqS x y).map fun r => D.bl (!r)
theorem so_eq : OpF K b rEq oEq := fun R H x y dx dy s rx ry Q q => by
  unfold oEq at q
  cases e : eqS dx dy with
  | none => rw [e] at q; exact q.elim
  | some r =>
    rw [e] at q
    obtain ⟨h1, h2⟩ := eqS_some e rx ry
    exact ⟨h1, q _ R H (Ext.refl s) (by rw [h2]; exact .bl r)⟩
theorem so_ne : OpF K b rNe oNe := fun R H x y dx dy s rx ry Q q => by
  unfold oNe at q
  cases e : eqS dx dy with
  | none => rw [e] at q; exact q.elim
  | some r =>
    rw [e] at q
    obtain ⟨h1, h2⟩ := eqS_some e rx ry
    exact ⟨h1, q _ R H (Ext.refl s) (by rw [h2]; exact .bl _)⟩
/-- x is None -/
def isN : D → Bool
  | .non => true
  | _ => false
theorem isN_dec {R : Hp} {x : V} {d : D} (r : Rep K b R x d) : decide (x = .non) = isN d := by
  cases r <;> simp [isN]
def oIsN (x y : D) : Option D := match y with
  | .non => some (.bl (isN x))
  | _ => none
def oNotN (x y : D) : Option D := match y with
  | .non => some (.bl (!isN x))
  | _ => none
theorem so_isN : OpF K b (fun x y H Q => y = .non ∧ Q (.bl (decide (x = .non))) H) oIsN := fun R H x y dx dy s rx ry Q q => by
  cases dy <;> simp only [oIsN] at q <;> try exact q.elim
  exact ⟨ry.non_inv, q _ R H (Ext.refl s) (by rw [isN_dec rx]; exact .bl _)⟩
theorem so_notN : OpF K b (fun x y H Q => y = .non ∧ Q (.bl (!decide (x = .non))) H) oNotN := fun R H x y dx dy s rx ry Q q => by
  cases dy <;> simp only [oNotN] at q <;> try exact q.elim
  exact ⟨ry.non_inv, q _ R H (Ext.refl s) (by rw [isN_dec rx]; exact .bl _)⟩
/-- x is True, x is False, x a truth or None -/
def isW : D → D → Option Bool
  | .non, .bl _ => some false
  | .bl i, .bl j => some (decide (i = j))
  | _, _ => none
def oIsW (x y : D) : Option D := (isW x y).map D.bl
def oNotW (x y : D) : Option D := (isW x y).map fun r => D.bl (!r)
theorem isW_some {R : Hp} {x y : V} {dx dy : D} {r : Bool} (h : isW dx dy = some r) (rx : Rep K b R x dx) (ry : Rep K b R y dy) : ∃ c, y = .bl c ∧ (x = .non ∨ ∃ a, x = .bl a) ∧ decide (x = .bl c) = r := by
  cases dx <;> cases dy <;> simp only [isW] at h <;> try (cases h; done)
  all_goals cases rx
  all_goals cases ry
  all_goals cases h
  · exact ⟨_, rfl, .inl rfl, by simp⟩
  · exact ⟨_, rfl, .inr ⟨_, rfl⟩, Y.dec_bl⟩
theorem so_isW : OpF K b rIsW oIsW := fun R H x y dx dy s rx ry Q q => by
  unfold oIsW at q
  cases e : isW dx dy with
  | none => rw [e] at q; exact q.elim
  | some r =>
    rw [e] at q
    obtain ⟨c, h1, h2, h3⟩ := isW_some e rx ry
    exact ⟨c, h1, h2, q _ R H (Ext.refl s) (by rw [h3]; exact .bl r)⟩
theorem so_notW : OpF K b rNotW oNotW := fun R H x y dx dy s rx ry Q q => by
  unfold oNotW at q
  cases e : isW dx dy with
  | none => rw [e] at q; exact q.elim
  | some r =>
    rw [e] at q
    obtain ⟨c, h1, h2, h3⟩ := isW_some e rx ry
    exact ⟨c, h1, h2, q _ R H (Ext.refl s) (by rw [h3]; exact .bl _)⟩
/-! in -/
def flD : D → Bool
  | .non => true | .bl _ => true | .int _ => true | .str _ => true
  | _ => false
def eqF : D → D → Bool
  | .non, .non => true
  | .bl a, .bl b => a == b
  | .bl a, .int b => (if a then 1 else 0) == b
  | .int a, .bl b => a == (if b then 1 else 0)
  | .int a, .int b => a == b
  | .str a, .str b => a == b
  | _, _ => false
def inD (x : D) (ds : List D) : Bool := ds.any fun y => eqF y x
theorem flD_V {R : Hp} {x : V} {d : D} (r : Rep K b R x d) (h : flD d = true) : flatV x = true := by
  cases r <;> first | rfl | cases h
theorem eqF_V {R : Hp} {x y : V} {d e : D} (r : Rep K b R x d) (t : Rep K b R y e) (h : flD d = true) (g : flD e = true) : eqV x y = eqF d e := by
  cases r <;> cases t <;> first | rfl | cases h | cases g
theorem inD_V {R : Hp} {x : V} {d : D} {vs : List V} {ds : List D} (r : Rep K b R x d) (h : flD d = true) (rs : Reps K b R vs ds) (hs : ds.all flD = true) : vs.all flatV = true ∧ inV x vs = inD d ds := by
  induction ds generalizing vs with
  | nil => cases rs.nil_inv; exact ⟨rfl, rfl⟩
  | cons e ds ih =>
    obtain ⟨v, ws, rfl, rv, rw'⟩ := rs.cons_inv
    rw [List.all_cons, Bool.and_eq_true] at hs
    obtain ⟨i1, i2⟩ := ih rw' hs.2
    refine ⟨by rw [List.all_cons, flD_V rv hs.1, i1]; rfl, ?_⟩
    show (eqV v x || inV x ws) = (eqF e d || inD d ds)
    rw [eqF_V rv r hs.1 h, i2]
def seqD : D → Option (List D)
  | .lst ds => some ds
  | .tup ds => some ds
  | .tpx ds => some ds
  | _ => none
theorem seqD_some {R : Hp} {v : V} {d : D} {ds : List D} (h : seqD d = some ds) (r : Rep K b R v d) : ∃ a vs, v = .ref a ∧ (SqL K R a vs ∨ SqT K R a vs) ∧ Reps K b R vs ds := by
  cases d <;> simp only [seqD] at h <;> try (cases h; done)
  all_goals cases h
  · obtain ⟨a, vs, e, h, t⟩ := r.lst_inv
    exact ⟨a, vs, e, .inl (.inl (.inl h)), t⟩
  · obtain ⟨a, vs, e, h, t⟩ := r.tup_inv
    exact ⟨a, vs, e, .inr h, t⟩
  · obtain ⟨a, vs, e, h, t⟩ := r.tpx_tup.tup_inv
    exact ⟨a, vs, e, .inr h, t⟩
def oIn (neg : Bool) (x y : D) : Option D := (seqD y).bind fun ds => if (flD x && ds.all flD) = true then some (.bl (if neg = true then !inD x ds else inD x ds)) else none
theorem so_in {neg : Bool} : OpF K b (rIn K neg) (oIn neg) := fun R H x y dx dy s rx ry Q q => by
  unfold oIn at q
  cases e : seqD dy with
  | none => rw [e] at q; exact q.elim
  | some ds =>
    rw [e] at q
    dsimp only [Option.bind] at q
    obtain ⟨a, vs, rfl, h, t⟩ := seqD_some e ry
    by_cases f : (flD dx && ds.all flD) = true
    · rw [if_pos f] at q
      obtain ⟨f1, f2⟩ := Bool.and_eq_true_iff.mp f
      obtain ⟨g1, g2⟩ := inD_V rx f1 t f2
      exact ⟨a, vs, rfl, h.imp (SqL.mono s) (SqT.mono s), flD_V rx f1, g1, q _ R H (Ext.refl s) (by rw [g2]; cases neg <;> exact .bl _)⟩
    · rw [if_neg f] at q
      exact q.elim
def oNeg : D → Option D
  | .int i => some (.int (-i))
  | _ => none
theorem so_neg : UnF K b (rU fun i => .int (-i)) oNeg := fun R H x dx s rx Q q => by
  cases dx <;> simp only [oNeg] at q <;> try exact q.elim
  cases rx.int_inv
  exact ⟨_, rfl, q _ R H (Ext.refl s) (.int _)⟩
/-! lists and tuples: +, *, items -/
def oCat : D → D → Option (List D)
  | .lst xs, .lst ys => if xs.length + ys.length ≤ 100000 then some (xs ++ ys) else none
  | _, _ => none
theorem so_cat : OpL K b rCat oCat := fun R H x y dx dy s rx ry Q q => by
  cases dx <;> cases dy <;> simp only [oCat] at q <;> try exact q.elim
  rename_i xs ys
  obtain ⟨a, vs, rfl, h1, r1⟩ := rx.lst_inv
  obtain ⟨c, ws, rfl, h2, r2⟩ := ry.lst_inv
  by_cases l : xs.length + ys.length ≤ 100000
  · rw [if_pos l] at q
    exact ⟨a, c, vs, ws, rfl, rfl, s _ _ h1, s _ _ h2, by rw [r1.1, r2.1]; exact Nat.le_trans l (by decide), fun p hp => q p _ hp (r1.app r2)⟩
  · rw [if_neg l] at q; exact q.elim
def oCatT : D → D → Option D
  | .tup xs, .tup ys => if xs ≠ [] ∧ xs.length + ys.length ≤ 100000 then some (.tup (xs ++ ys)) else none
  | _, _ => none
def ixO (ds : List D) (y : D) : Option D := match y with
  | .int i => atI ds i
  | _ => none
def oIx (x y : D) : Option D := match x with
  | .lst ds => ixO ds y
  | _ => none
def oIxT (x y : D) : Option D := match x with
  | .tup ds => ixO ds y
  | _ => none
theorem so_ix : OpF K b (rIxL K) oIx := fun R H x y dx dy s rx ry Q q => by
  cases dx <;> simp only [oIx] at q <;> try exact q.elim
  cases dy <;> simp only [ixO] at q <;> try exact q.elim
  rename_i ds i
  obtain ⟨a, vs, rfl, h1, r1⟩ := rx.lst_inv
  cases ry.int_inv
  cases e : atI ds i with
  | none => rw [e] at q; exact q.elim
  | some d =>
    rw [e] at q
    obtain ⟨j, u, _, k1, k2, k3⟩ := atI_len (xs := vs) r1.1 e
    exact ⟨a, vs, i, u, rfl, rfl, .inl (.inl (s _ _ h1)), k3, q u R H (Ext.refl s) (r1.2 j u d k1 k2)⟩
theorem so_ixT : OpF K b (rIxT K) oIxT := fun R H x y dx dy s rx ry Q q => by
  cases dx <;> simp only [oIxT] at q <;> try exact q.elim
  cases dy <;> simp only [ixO] at q <;> try exact q.elim
  rename_i ds i
  obtain ⟨a, vs, rfl, h1, r1⟩ := rx.tup_inv
  cases ry.int_inv
  cases e : atI ds i with
  | none => rw [e] at q; exact q.elim
  | some d =>
    rw [e] at q
    obtain ⟨j, u, _, k1, k2, k3⟩ := atI_len (xs := vs) r1.1 e
    exact ⟨a, vs, i, u, rfl, rfl, SqT.mono s h1, k3, q u R H (Ext.refl s) (r1.2 j u d k1 k2)⟩
/-! built-in functions -/
def oLen : List D → Option D
  | [d] => (seqD d).map fun ds => .int ds.length
  | _ => none
theorem so_len : CbF K b (fun (xs : List V) (H : Hp) (Q : VK) => ∃ p ys, xs = [.ref p] ∧ (SqL K H p ys ∨ SqT K H p ys) ∧ Q (.int ys.length) H) oLen := fun R H vs ds s r Q q => by
  match ds, q, r with
  | [d], q, r =>
    obtain ⟨v, ws, rfl, r1, r2⟩ := r.cons_inv
    cases r2.nil_inv
    simp only [oLen] at q
    cases e : seqD d with
    | none => rw [e] at q; exact q.elim
    | some es =>
      rw [e] at q
      obtain ⟨a, us, rfl, h, t⟩ := seqD_some e r1
      exact ⟨a, us, rfl, h.imp (SqL.mono s) (SqT.mono s), q _ R H (Ext.refl s) (by rw [t.1]; exact .int _)⟩
  | [], q, _ => exact q.elim
  | _ :: _ :: _, q, _ => exact q.elim
theorem one {R : Hp} {vs : List V} {d : D} (r : Reps K b R vs [d]) : ∃ v, vs = [v] ∧ Rep K b R v d := by
  obtain ⟨v, ws, rfl, r1, r2⟩ := r.cons_inv
  cases r2.nil_inv
  exact ⟨v, rfl, r1⟩
theorem two {R : Hp} {vs : List V} {d e : D} (r : Reps K b R vs [d, e]) : ∃ v u, vs = [v, u] ∧ Rep K b R v d ∧ Rep K b R u e := by
  obtain ⟨v, ws, rfl, r1, r2⟩ := r.cons_inv
  obtain ⟨u, rfl, r3⟩ := one r2
  exact ⟨v, u, rfl, r1, r3⟩
def oAbs : List D → Option D
  | [.int i] => some (.int (if i < 0 then -i else i))
  | _ => none
def oMin2 : List D → Option D
  | [.int i, .int j] => some (.int (if j < i then j else i))
  | _ => none
def oMax2 : List D → Option D
  | [.int i, .int j] => some (.int (if j > i then j else i))
  | _ => none
def oInt : List D → Option D
  | [.int i] => some (.int i)
  | [.bl k] => some (.int (if k then 1 else 0))
  | _ => none
theorem so_abs : CbF K b (fun xs H Q => ∃ i, xs = [.int i] ∧ Q (.int (if i < 0 then -i else i)) H) oAbs := fun R H vs ds s r Q q => by
  match ds, q, r with
  | [.int i], q, r =>
    obtain ⟨v, rfl, r1⟩ := one r
    cases r1.int_inv
    exact ⟨i, rfl, q _ R H (Ext.refl s) (.int _)⟩
end
end Y

namespace Y
open PySem PySem.Spec PyProof.Rows L2
section
variable {K : PySem.W.Frag} {b : CTB}
theorem so_min2 : CbF K b (fun xs H Q => ∃ i j, xs = [.int i, .int j] ∧ Q (.int (if j < i then j else i)) H) oMin2 := fun R H vs ds s r Q q => by
  match ds, q, r with
  | [.int i, .int j], q, r =>
    obtain ⟨v, u, rfl, r1, r2⟩ := two r
    cases r1.int_inv; cases r2.int_inv
    exact ⟨i, j, rfl, q _ R H (Ext.refl s) (.int _)⟩
theorem so_max2 : CbF K b (fun xs H Q => ∃ i j, xs = [.int i, .int j] ∧ Q (.int (if j > i then j else i)) H) oMax2 := fun R H vs ds s r Q q => by
  match ds, q, r with
  | [.int i, .int j], q, r =>
    obtain ⟨v, u, rfl, r1, r2⟩ := two r
    cases r1.int_inv; cases r2.int_inv
    exact ⟨i, j, rfl, q _ R H (Ext.refl s) (.int _)⟩
theorem so_int : CbF K b (fun xs H Q => (∃ i, xs = [.int i] ∧ Q (.int i) H) ∨ ∃ k, xs = [.bl k] ∧ Q (.int (if k then 1 else 0)) H) oInt := fun R H vs ds s r Q q => by
  match ds, q, r with
  | [.int i], q, r =>
    obtain ⟨v, rfl, r1⟩ := one r
    cases r1.int_inv
    exact .inl ⟨i, rfl, q _ R H (Ext.refl s) (.int _)⟩
  | [.bl k], q, r =>
    obtain ⟨v, rfl, r1⟩ := one r
    cases r1.bl_inv
    exact .inr ⟨k, rfl, q _ R H (Ext.refl s) (.int _)⟩
/-- list(x) -/
def oList : List D → Option (List D)
  | [.lst ds] => some ds
  | [.tup ds] => some ds
  | [.tpx ds] => some ds
  | [.scr ns] => some (ns.map D.int)
  | _ => none
theorem so_list : CbL K b (fun xs H Q => ∃ p ys, xs = [.ref p] ∧ (SqL K H p ys ∨ SqT K H p ys) ∧ ∀ l, H l = none → Q (.ref l) (upd H l (.lst ys))) oList := fun R H vs ds s r Q q => by
  match ds, q, r with
  | [.lst es], q, r =>
    obtain ⟨v, rfl, r1⟩ := one r
    obtain ⟨a, us, rfl, h, t⟩ := r1.lst_inv
    exact ⟨a, us, rfl, .inl (.inl (.inl (s _ _ h))), fun l hl => q l us hl t⟩
  | [.tup es], q, r =>
    obtain ⟨v, rfl, r1⟩ := one r
    obtain ⟨a, us, rfl, h, t⟩ := r1.tup_inv
    exact ⟨a, us, rfl, .inr (SqT.mono s h), fun l hl => q l us hl t⟩
  | [.tpx es], q, r =>
    obtain ⟨v, rfl, r1⟩ := one r
    obtain ⟨a, us, rfl, h, t⟩ := r1.tpx_tup.tup_inv
    exact ⟨a, us, rfl, .inr (SqT.mono s h), fun l hl => q l us hl t⟩
  | [.scr ns], q, r =>
    obtain ⟨v, rfl, r1⟩ := one r
    cases r1 with
    | scr h => exact ⟨_, _, rfl, .inl (SqL.mono s h), fun l hl => q l _ hl (.ints ns)⟩
/-- tuple(x) -/
def oTuple : List D → Option D
  | [.lst ds] => some (.tup ds)
  | [.tup ds] => some (.tup ds)
  | [.tpx ds] => some (.tpx ds)
  | _ => none
theorem so_tuple : CbF K b (fun xs H Q => ∃ p ys, xs = [.ref p] ∧ ((SqL K H p ys ∧ ∀ l, H l = none → Q (.ref l) (upd H l (.tup ys))) ∨ (SqT K H p ys ∧ Q (.ref p) H))) oTuple := fun R H vs ds s r Q q => by
  match ds, q, r with
  | [.lst es], q, r =>
    obtain ⟨v, rfl, r1⟩ := one r
    obtain ⟨a, us, rfl, h, t⟩ := r1.lst_inv
    refine ⟨a, us, rfl, .inl ⟨.inl (.inl (s _ _ h)), fun l hl => ?_⟩⟩
    have x := Ext.new (o := .tup us) s hl
    exact q _ _ _ x (.tup (.inl (.inl upd_same)) t.1 (t.mono x.r).2)
  | [.tup es], q, r =>
    obtain ⟨v, rfl, r1⟩ := one r
    obtain ⟨a, us, e, h, t⟩ := r1.tup_inv
    subst e
    exact ⟨a, us, rfl, .inr ⟨SqT.mono s h, q _ R H (Ext.refl s) r1⟩⟩
  | [.tpx es], q, r =>
    obtain ⟨v, rfl, r1⟩ := one r
    obtain ⟨a, us, e, h, t⟩ := r1.tpx_tup.tup_inv
    subst e
    exact ⟨a, us, rfl, .inr ⟨SqT.mono s h, q _ R H (Ext.refl s) r1⟩⟩
theorem so_catT : OpF K b (rCatT K) oCatT := fun R H x y dx dy s rx ry Q q => by
  cases dx <;> cases dy <;> simp only [oCatT] at q <;> try exact q.elim
  rename_i xs ys
  obtain ⟨a, vs, rfl, h1, r1⟩ := rx.tup_inv
  obtain ⟨c, ws, rfl, h2, r2⟩ := ry.tup_inv
  by_cases l : xs ≠ [] ∧ xs.length + ys.length ≤ 100000
  · rw [if_pos l] at q
    refine ⟨a, c, vs, ws, rfl, rfl, SqT.mono s h1, SqT.mono s h2, fun z => l.1 ?_, by rw [r1.1, r2.1]; exact Nat.le_trans l.2 (by decide), ?_⟩
    · have := r1.1
      rw [z] at this
      exact List.eq_nil_of_length_eq_zero this.symm
    · refine ⟨fun z => ?_, fun _ p hp => ?_⟩
      · subst z
        cases (List.eq_nil_of_length_eq_zero r2.1.symm)
        rw [List.append_nil] at q
        exact q _ R H (Ext.refl s) rx
      · have x := Ext.new (o := .tup (vs ++ ws)) s hp
        exact q _ _ _ x (.tup (.inl (.inl upd_same)) (by simp [r1.1, r2.1]) ((r1.app r2).mono x.r).2)
  · rw [if_neg l] at q; exact q.elim
/-! isinstance of a written class -/
inductive Ty where
  | list | tuple | int | bool | str
def Ty.nm : Ty → String
  | .list => "list" | .tuple => "tuple" | .int => "int" | .bool => "bool" | .str => "str"
def isTy : Ty → D → Option Bool
  | .list, .lst _ => some true | .tuple, .tup _ => some true | .int, .int _ => some true | .int, .bl _ => some true | .bool, .bl _ => some true | .str, .str _ => some true
  | _, .ins _ _ _ => none
  | _, .ols _ => none
  | _, .scr _ => none
  | _, .dct _ _ _ => none
  | _, .odc _ _ _ => none
  | _, .oin _ _ _ => none
  | _, .fn _ => none
  | _, .cls _ => none
  | _, .hole _ => none
  | .tuple, .tpx _ => some true
  | _, _ => some false
def tyN : D → Option String
  | .non => some "NoneType" | .bl _ => some "bool" | .int _ => some "int" | .str _ => some "str" | .lst _ => some "list" | .tup _ => some "tuple" | .tpx _ => some "tuple"
  | _ => none
theorem tyN_ty {R : Hp} {v : V} {d : D} {t : String} (h : tyN d = some t) (q : Rep K b R v d) : TyX K R v (.type t) := by
  cases q <;> simp only [tyN] at h <;> cases h
  · exact .base .non
  · exact .base (.bl _)
  · exact .base (.int _)
  · exact .base (.str _)
  · exact ty_lst (.inl (.inl (by assumption)))
  · exact ty_tup (by assumption)
  · exact ty_tup (.inl (.inr ⟨_, by assumption⟩))
theorem tyN_k {d : D} {t : String} {T : Ty} {r : Bool} (h : tyN d = some t) (e : isTy T d = some r) : kitB t T.nm = some r := by
  cases d <;> simp only [tyN] at h <;> cases h <;> cases T <;> (cases e; decide +kernel)
theorem isTy_N {d : D} {T : Ty} {r : Bool} (e : isTy T d = some r) : ∃ t, tyN d = some t := by
  cases d <;> first | exact ⟨_, rfl⟩ | (cases T <;> cases e)
def mIsi (T : Ty) (f : M D) : M D := mB f fun d => mO ((isTy T d).map D.bl)
/-- isinstance(x, (list, tuple)) -/
def isSq (d : D) : Option Bool := (isTy .list d).bind fun r => if r = true then some true else isTy .tuple d
def mIsi2 (f : M D) : M D := mB f fun d => mO ((isSq d).map D.bl)
end
section
variable {K : PySem.W.Frag} {ct : CT} {ms : List Nat} {W : WX} {H0 R R' H H' : Hp} {vp : Nat → V} {ρ : Env} {σ : L2.St}
theorem sim_isi {T : Ty} {t : TE} {f : M D} (hf : SimF K ct ms vp W t f) : SimF K ct ms vp W (tCB (rIsi K) (tCons t (tCons (tC (.ty T.nm)) tNil))) (mIsi T f) := fun H0 ρ σ R H ok Q q =>
  hf H0 ρ σ R H ok _ (Po.mono (Po.bind q) fun d ρ1 q v R1 H1 g1 ok1 r1 => by
    obtain ⟨d', e, q⟩ := Po.opt q
    obtain ⟨r, e1, e2⟩ := Option.map_eq_some_iff.mp e
    subst e2
    obtain ⟨t, et⟩ := isTy_N e1
    exact r_isi (tyN_ty et (r1.mono ok1.same)) (tyN_k et e1) (q _ R1 H1 g1 ok1 (.bl _)))
theorem sim_isi2 {t : TE} {f : M D} (hf : SimF K ct ms vp W t f) : SimF K ct ms vp W (tCB (rIsiT K) (tCons t (tCons (tTup (tCons (tC (.ty "list")) (tCons (tC (.ty "tuple")) tNil))) tNil))) (mIsi2 f) := fun H0 ρ σ R H ok Q q =>
  hf H0 ρ σ R H ok _ (Po.mono (Po.bind q) fun d ρ1 q v R1 H1 g1 ok1 r1 => by
    obtain ⟨d', e, q⟩ := Po.opt q
    obtain ⟨r, e1, e2⟩ := Option.map_eq_some_iff.mp e
    subst e2
    refine ⟨by decide, fun p hp => ?_⟩
    have x := Ext.heap (o := .tup [.ty "list", .ty "tuple"]) ok1.same hp
    have ok2 := ok1.ext x
    have fin := q (.bl r) R1 _ (g1.trans (ok1.gr x)) ok2 (.bl r)
    obtain ⟨r0, e3, e4⟩ := Option.bind_eq_some_iff.mp e1
    obtain ⟨t, et⟩ := isTy_N e3
    have ty := tyN_ty et (r1.mono x.s)
    have k := tyN_k et e3
    cases r0 with
    | true =>
      cases e4
      exact r_isi2 upd_same ty (kit2 k (.inl rfl)) fin
    | false =>
      have k' := tyN_k et e4
      cases r with
      | true => exact r_isi2 upd_same ty (kit2t k k') fin
      | false => exact r_isi2 upd_same ty (kit2 k (.inr k')) fin)
/-! truth -/
def truD : D → Option Bool
  | .non => some false
  | .bl r => some r
  | .int i => some (i != 0)
  | .lst ds => some (!ds.isEmpty)
  | .tup ds => some (!ds.isEmpty)
  | _ => none
theorem isEmpty_reps {b : CTB} {vs : List V} {ds : List D} (r : Reps K b R vs ds) : vs.isEmpty = ds.isEmpty := by
  cases ds with
  | nil => cases r.nil_inv; rfl
  | cons => obtain ⟨v, ws, rfl, _⟩ := r.cons_inv; rfl
theorem truD_V {b : CTB} {v : V} {d : D} {r : Bool} (h : truD d = some r) (q : Rep K b R v d) (s : Same R H) : TruV K v H r := by
  cases q with
  | non => cases h; rfl
  | bl => cases h; rfl
  | int => cases h; rfl
  | str => cases h
  | lst e hl hc => cases h; exact .inl ⟨_, .inl (.inl (s _ _ e)), by rw [isEmpty_reps ⟨hl, hc⟩]⟩
  | tup e hl hc => cases h; exact .inr (.inl ⟨_, SqT.mono s e, by rw [isEmpty_reps ⟨hl, hc⟩]⟩)
  | scr => cases h
  | ins => cases h
  | slt => cases h
  | dct => cases h
  | dci => cases h
  | fn => cases h
  | tpx => cases h
  | hole => cases h
  | cls => cases h
def mTru (f : M D) : M Bool := mB f fun d => mO (truD d)
theorem sim_tru {t : TE} {f : M D} (hf : SimF K ct ms vp W t f) : SimT K ct ms vp W (fun σ H Q => t σ H fun x H' => ∃ k, TruV K x H' k ∧ Q k H') (mTru f) := fun H0 ρ σ R H ok Q q =>
  hf H0 ρ σ R H ok _ (Po.mono (Po.bind q) fun d ρ1 q v R1 H1 g1 ok1 r1 => by
    obtain ⟨r, e, q⟩ := Po.opt q
    exact ⟨r, truD_V e r1 ok1.same, q R1 H1 g1 ok1⟩)
/-- the truth of a list in a slot -/
def mTruV (i : Nat) : M Bool := mB (mGet fun ρ => seqOf ρ[i]?) fun ds => mP (!ds.isEmpty)
theorem isEmpty_len {α β : Type} {xs : List α} {ys : List β} (h : xs.length = ys.length) : xs.isEmpty = ys.isEmpty := by
  cases xs <;> cases ys <;> first | rfl | simp at h
theorem sim_truV {i : Nat} : SimT K ct ms vp W (fun σ H Q => tVar i σ H fun x H' => ∃ k, TruV K x H' k ∧ Q k H') (mTruV i) := fun H0 ρ σ R H ok Q q => by
  obtain ⟨ds, e, q⟩ := Po.get (Po.bind q)
  obtain ⟨d, e2, e3⟩ := seqOf_some e
  obtain ⟨a, vs, x, y, l, _⟩ := ok.seq e2 e3
  exact ⟨.ref a, x, _, .inl ⟨vs, sql0 y, rfl⟩, by rw [isEmpty_len l]; exact q R H (Gr.refl _ _) ok⟩
/-! slices -/
def SimPO (K : PySem.W.Frag) (ct : CT) (ms : List Nat) (vp : Nat → V) (W : WX) (t : TO) (f : M (Option Int)) : Prop := ∀ H0 ρ σ R H, Ok K ct H0 ms vp ρ σ R H → ∀ Q : Option Int → Hp → Prop, Po K ct ms vp W H0 σ R (fun b ρ' => ∀ R' H', Gr H0 R R' → Ok K ct H0 ms vp ρ' σ R' H' → Q b H') (f ρ) → t σ H Q
def mPNo : M (Option Int) := mP none
def mPSome (f : M D) : M (Option Int) := mB f fun d => mO (match d with | .int i => some (some i) | _ => none)
theorem sim_pno : SimPO K ct ms vp W tNoPart mPNo := fun H0 ρ σ R H ok Q q => q R H (Gr.refl _ _) ok
theorem sim_psome {t : TE} {f : M D} (hf : SimF K ct ms vp W t f) : SimPO K ct ms vp W (tPart t) (mPSome f) := fun H0 ρ σ R H ok Q q =>
  hf H0 ρ σ R H ok _ (Po.mono (Po.bind q) fun d ρ1 q v R1 H1 g1 ok1 r1 => by
    obtain ⟨r, e, q⟩ := Po.opt q
    cases d with
    | int i => cases e; exact ⟨i, r1.int_inv, q R1 H1 g1 ok1⟩
    | _ => cases e)
def cutD (xs : List D) (lo hi : Option Int) : List D := (xs.drop (HT.sIx xs.length 0 lo)).take (HT.sIx xs.length xs.length hi - HT.sIx xs.length 0 lo)
theorem Reps.cut {b : CTB} {vs : List V} {ds : List D} (r : Reps K b R vs ds) (lo hi : Option Int) : Reps K b R (cutV vs lo hi) (cutD ds lo hi) := by
  unfold cutV cutD
  rw [r.1]
  exact (r.drop _).take _
def mSlL (f : M D) (l h : M (Option Int)) : M D := mB f fun d => mB l fun lo => mB h fun hi => mB (mO (asL d)) fun ds => mP (.ols (cutD ds lo hi))
theorem sim_slL {te : TE} {tl th : TO} {f : M D} {l h : M (Option Int)} (hf : SimF K ct ms vp W te f) (hl : SimPO K ct ms vp W tl l) (hh : SimPO K ct ms vp W th h) : SimE K ct ms vp W (tSl (rSlL K) te tl th) (mSlL f l h) := fun H0 ρ σ R H ok Q q =>
  hf H0 ρ σ R H ok _ (Po.mono (Po.bind q) fun d ρ1 q v R1 H1 g1 ok1 r1 =>
    hl H0 ρ1 σ R1 H1 ok1 _ (Po.gr g1 (Po.bind q) fun lo ρ2 q R2 H2 g2 ok2 =>
      hh H0 ρ2 σ R2 H2 ok2 _ (Po.gr (g1.trans g2) (Po.bind q) fun hi ρ3 q R3 H3 g3 ok3 => by
        obtain ⟨ds, e, q⟩ := Po.opt (Po.bind q)
        cases asL_some e
        obtain ⟨a, vs, rfl, h, t⟩ := r1.lst_inv
        have t3 := t.mono (g2.trans g3).1
        refine ⟨a, vs, rfl, .inl (.inl (ok3.same _ _ ((g2.trans g3).1 _ _ h))), fun p hp => ?_⟩
        exact q (.ref p) R3 _ ((g1.trans g2).trans g3) (ok3.list hp (t3.cut lo hi)) ok3.len.symm)))
def notAll (n : Nat) (lo hi : Option Int) : Option Unit := if HT.sIx n 0 lo = 0 ∧ HT.sIx n n hi = n then none else some ()
def mSlT (f : M D) (l h : M (Option Int)) : M D := mB f fun d => mB l fun lo => mB h fun hi => mB (mO (asT d)) fun ds => mB (mO (notAll ds.length lo hi)) fun _ => mP (.tup (cutD ds lo hi))
theorem sim_slT {te : TE} {tl th : TO} {f : M D} {l h : M (Option Int)} (hf : SimF K ct ms vp W te f) (hl : SimPO K ct ms vp W tl l) (hh : SimPO K ct ms vp W th h) : SimF K ct ms vp W (tSl (rSlT K) te tl th) (mSlT f l h) := fun H0 ρ σ R H ok Q q =>
  hf H0 ρ σ R H ok _ (Po.mono (Po.bind q) fun d ρ1 q v R1 H1 g1 ok1 r1 =>
    hl H0 ρ1 σ R1 H1 ok1 _ (Po.gr g1 (Po.bind q) fun lo ρ2 q R2 H2 g2 ok2 =>
      hh H0 ρ2 σ R2 H2 ok2 _ (Po.gr (g1.trans g2) (Po.bind q) fun hi ρ3 q R3 H3 g3 ok3 => by
        obtain ⟨ds, e, q⟩ := Po.opt (Po.bind q)
        obtain ⟨_, na, q⟩ := Po.opt (Po.bind q)
        rw [asT_some e] at r1
        obtain ⟨a, vs, rfl, h, t⟩ := r1.tup_inv
        have t3 := t.mono (g2.trans g3).1
        refine ⟨a, vs, rfl, SqT.mono ok3.same (SqT.mono (g2.trans g3).1 h), fun z => ?_, fun p hp => ?_⟩
        · rw [t.1] at z
          unfold notAll at na
          rw [if_pos z] at na
          cases na
        · have x := Ext.new (o := .tup (cutV vs lo hi)) ok3.same hp
          have tc := (t3.cut lo hi).mono x.r
          exact q (.ref p) _ _ (((g1.trans g2).trans g3).trans (ok3.gr x)) (ok3.ext x) (.tup (.inl (.inl upd_same)) tc.1 tc.2))))
/-! raise -/
def mRaise0 (c : Nat) : Stm := fun ρ => .ex c none ρ
theorem sim_raise0 {c : Nat} {C : Addr} (e : C = ct.b.err c) : SimS K ct ms vp W (fun _ σ H => W (.ref C) none σ H) (mRaise0 c) := fun H0 ρ σ R H ok D' q => by
  subst e
  exact q none σ R H (Gr.refl _ _) ok rfl
def mRaise1 (c : Nat) (g : M (List D)) : Stm := mThen g fun xs ρ => match xs with
  | [x] => .ex c (some x) ρ
  | _ => .st
theorem sim_raise1 {c : Nat} {C : Addr} {f : Str} {ta : TA} {g : M (List D)} (e : C = ct.b.err c) (ef : f = ct.b.fld c) (hg : SimA K ct ms vp W ta g) : SimS K ct ms vp W (fun _ σ H => tMkO C (spErr C f) [] ta σ H fun cls d H' => W cls d σ H') (mRaise1 c g) := fun H0 ρ σ R H ok D' q => by
  subst e ef
  refine hg H0 ρ σ R H ok _ (Po.mono (PoS.bind q) fun xs ρ1 q vs R1 H1 g1 ok1 r1 => ?_)
  match xs, q, r1 with
  | [x], q, r1 =>
    obtain ⟨v, rfl, rv⟩ := one r1
    refine ⟨by simp, fun a ha => err_heap (C := ct.b.err c) (f := ct.b.fld c) (v := v) (H := H1) (R := fun cls d H' => W cls d σ H') (fun d H' hd s h => ?_) ha⟩
    have hr : R1 d = none := ok1.same.free hd
    have ex : Ext R1 H1 (upd R1 d (.xd [(ct.b.fld c, v)])) H' := by
      refine ⟨fun a u h => ?_, fun a u h => ?_, s, fun b h => ?_⟩
      · rw [upd_ne (ne_of_none h hr)]; exact h
      · by_cases e : a = d
        · subst e; rw [upd_same] at h; rw [← h]; assumption
        · rw [upd_ne e] at h; exact s _ _ (ok1.same _ _ h)
      · by_cases e : b = d
        · subst e; exact .inr hd
        · rw [upd_ne e] at h; exact .inl h
    exact q (some d) σ _ H' (g1.trans (ok1.gr ex)) (ok1.ext ex) ⟨d, v, rfl, upd_same, rv.mono ex.r⟩
/-! try .. except X as n -/
def offO (i : Nat) : Out → Out
  | .nx ρ => .nx (ρ.set i none)
  | .bk ρ => .bk (ρ.set i none)
  | .ct ρ => .ct (ρ.set i none)
  | .rt d ρ => .rt d ρ
  | .ex c x ρ => .ex c x ρ
  | .st => .st
def mTry (body : Stm) (i : Nat) (fits : Nat → Option Bool) (h : Nat → Option D → Stm) : Stm := fun ρ => match body ρ with
  | .ex c x ρ1 => match fits c with
    | some true => if i < ρ1.length then offO i (h c x (ρ1.set i none)) else .st
    | some false => .ex c x ρ1
    | none => .st
  | .nx ρ1 => .nx ρ1 | .rt d ρ1 => .rt d ρ1 | .bk ρ1 => .bk ρ1 | .ct ρ1 => .ct ρ1 | .st => .st
/-- what is known of an error while it is looked at -/
def CT.with (ct : CT) (K : PySem.W.Frag) (c : Nat) (x : Option D) (od : Option Addr) : CT := ⟨ct.b, fun R => ct.inv R ∧ XOk K ct.b R c x od, fun _ _ s h => ⟨ct.mono _ _ s h.1, h.2.mono s⟩⟩
theorem Ok.unset (ok : Ok K ct H0 ms vp ρ σ R H) {i : Nat} (hi : i ∉ ms) (y : Option V) : Ok K ct H0 ms vp (ρ.set i none) (σ.set i y) R H := by
  refine ok.sel id (by simp [ok.len]) (fun j hj => ?_) (fun k d h => ?_) fun k k' _ _ e => e
  · rw [List.getElem?_set_ne (fun z => hi (by rw [z]; exact hj))]
    exact ok.pins j hj
  · by_cases e : i = k
    · subst e
      rw [List.getElem?_set] at h
      simp only [if_true] at h
      split at h <;> cases h
    · rw [List.getElem?_set_ne e] at h
      rw [List.getElem?_set_ne e]
      exact ⟨h, rfl⟩
/-- the slot that holds the error -/
def pinX (vp : Nat → V) (i : Nat) (a : Addr) : Nat → V := fun j => if j = i then .ref a else vp j
theorem sim_try {i : Nat} {cl : Value} {tb : WX → TS} {ts : Addr → Value → Option Addr → TS} {body : Stm} {fits : Nat → Option Bool} {h : Nat → Option D → Stm} (hi : i ∉ ms) (hf : ∀ c r, fits c = some r → PySem.W.exmOne K (.ref (ct.b.err c)) cl = some r)
    (hb : ∀ W', SimS K ct ms vp W' (tb W') body) (hh : ∀ a od c x, fits c = some true → SimS K (ct.with K c x od) (i :: ms) (pinX vp i a) W (ts a (.ref (ct.b.err c)) od) (h c x)) :
    SimS K ct ms vp W (fun D σ H => tb (wAs K cl i ts W D) D σ H) (mTry body i fits h) := fun H0 ρ σ R H ok D' q => by
  refine hb _ H0 ρ σ R H ok D' ?_
  unfold mTry at q
  have back : ∀ {c x od ρ3 a} {σ3 : L2.St} {R3 H3 : Hp}, Ok K (ct.with K c x od) H0 (i :: ms) (pinX vp i a) ρ3 σ3 R3 H3 → Ok K ct H0 ms vp ρ3 σ3 R3 H3 := fun {c x od ρ3 a σ3 R3 H3} o => by
    have := o.sel (ms' := ms) (vp' := vp) (ρ' := ρ3) (σ' := σ3) id o.len (fun j hj => by
      have p := o.pins j (List.mem_cons_of_mem _ hj)
      unfold pinX at p
      rw [if_neg (fun z => hi (by rw [← z]; exact hj))] at p
      exact p) (fun k d h => ⟨h, rfl⟩) fun k k' _ _ e => e
    exact this.cast rfl o.inv.1
  cases e : body ρ with
  | nx ρ1 => rw [e] at q; exact q
  | rt d ρ1 => rw [e] at q; exact q
  | bk ρ1 => rw [e] at q; exact q
  | ct ρ1 => rw [e] at q; exact q
  | st => rw [e] at q; exact q
  | ex c x ρ1 =>
    rw [e] at q
    dsimp only at q
    intro od σ1 R1 H1 g1 ok1 xo
    cases ef : fits c with
    | none => rw [ef] at q; exact q.elim
    | some r =>
      rw [ef] at q
      try dsimp only at q
      refine ⟨r, hf c r ef, fun er a ha => ?_, fun er => ?_⟩
      · subst er
        by_cases hlt : i < ρ1.length
        · have ok2 : Ok K (ct.with K c x od) H0 (i :: ms) (pinX vp i a) (ρ1.set i none) (σ1.set i (some (.ref a))) R1 H1 := by
            have o := ((ok1.unset hi (some (.ref a))).cast (ct' := ct.with K c x od) rfl ⟨ok1.inv, xo⟩)
            refine o.sel id o.len (fun j hj => ?_) (fun k d h => ⟨h, rfl⟩) fun k k' _ _ e => e
            unfold pinX
            by_cases ej : j = i
            · rw [if_pos ej, ej, List.getElem?_set_self (by rw [ok1.len]; exact hlt)]
            · rw [if_neg ej]
              refine o.pins j ?_
              cases hj with
              | head => exact absurd rfl ej
              | tail _ hj => exact hj
          refine hh a od c x ef H0 _ _ R1 H1 ok2 _ ?_
          have q2 := PoS.gr g1 q
          rw [if_pos hlt] at q2
          cases e2 : h c x (ρ1.set i none) with
          | nx ρ3 => rw [e2] at q2; exact fun σ3 R3 H3 g3 ok3 => q2 _ R3 H3 g3 ((back ok3).unset hi none)
          | bk ρ3 => rw [e2] at q2; exact fun σ3 R3 H3 g3 ok3 => q2 _ R3 H3 g3 ((back ok3).unset hi none)
          | ct ρ3 => rw [e2] at q2; exact fun σ3 R3 H3 g3 ok3 => q2 _ R3 H3 g3 ((back ok3).unset hi none)
          | rt d ρ3 =>
            rw [e2] at q2
            intro v σ3 R3 H3 g3 ok3 l
            refine q2 v σ3 R3 H3 g3 ?_ l
            have l3 : ρ3.length = σ3.length := l
            have := ok3.sel (ms' := ms) (vp' := vp) (ρ' := ρ3 ++ [some d]) (σ' := σ3 ++ [some v]) id ok3.len (fun j hj => by
              have p := ok3.pins j (List.mem_cons_of_mem _ hj)
              unfold pinX at p
              rw [if_neg (fun z => hi (by rw [← z]; exact hj))] at p
              exact p) (fun k d h => ⟨h, rfl⟩) fun k k' _ _ e => e
            exact this.cast rfl ok3.inv.1
          | ex c' x' ρ3 => rw [e2] at q2; exact fun od' σ3 R3 H3 g3 ok3 xo' => q2 od' σ3 R3 H3 g3 (back ok3) xo'
          | st => rw [e2] at q2; exact q2
        · rw [if_neg hlt] at q; exact q.elim
      · subst er
        exact q od σ1 R1 H1 g1 ok1 xo
/-- the field of the error that is looked at -/
def mXf (cs : List Nat) (c : Nat) (x : Option D) : M D := fun ρ => if c ∈ cs then (match x with
  | some d => .ok d ρ
  | none => .st) else .st
theorem sim_xf {i c cX : Nat} {x : Option D} {a : Addr} {od : Option Addr} {C : Addr} {f : Str} {vp' : Nat → V} {ms' : List Nat} (hC : C = ct.b.err cX) (hf : f = ct.b.fld cX) (hi : i ∈ ms') (hv : vp' i = .ref a) :
    SimF K (ct.with K c x od) ms' vp' W (tXf a (.ref (ct.b.err c)) od C f (tVar i)) (mXf [cX] c x) := fun H0 ρ σ R H ok Q q => by
  unfold mXf at q
  split at q
  · rename_i hc
    have hc : c = cX := by simpa using hc
    subst hc
    refine ⟨.ref a, by rw [ok.pins i hi, hv], rfl, by rw [hC], ?_⟩
    have iv := ok.inv.2
    cases x with
    | none => exact q.elim
    | some d =>
      obtain ⟨dd, v, e1, e2, r⟩ := iv
      exact ⟨dd, _, v, e1, ok.same _ _ e2, by rw [hf]; simp [List.lookup], q v R H (Gr.refl _ _) ok r⟩
  · exact q.elim
end
end Y

namespace Y
open PySem PySem.Spec PyProof.Rows L2
/-! ### operators of any kind of values -/
def r2or (r r' : R2) : R2 := fun x y H Q => r x y H Q ∨ r' x y H Q
theorem op_or2 {X : Cx} {f : Value → Value → Sem Value} {r r' : R2} (h : OpR X f r) (h' : OpR X f r') : OpR X f (r2or r r') := by
  intro pins s σ H x y v u Q I rx ry q
  rcases q with q | q
  · exact h pins s σ H x y v u Q I rx ry q
  · exact h' pins s σ H x y v u Q I rx ry q
def rAddS : R2 := fun x y H Q => ∃ i j, x = .str i ∧ y = .str j ∧ i.length + j.length ≤ sizeLine ∧ Q (.str (i ++ j)) H
def rAddA (K : PySem.W.Frag) : R2 := r2or (rI0 fun i j => .int (i + j)) (r2or rCat (r2or (rCatA K) rAddS))
theorem op_addA {X : Cx} {K : PySem.W.Frag} (hK : X.K = K) : OpR X (binaryOp .Add) (rAddA K) := by
  subst hK
  exact op_or2 op_add (op_or2 op_cat (op_or2 op_catA op_add_str))
def rMulA (K : PySem.W.Frag) : R2 := r2or (rI CMul fun i j => .int (i * j)) (r2or (rI CMulW fun i j => .int (i * j)) (r2or rRep (r2or (rRepTA K) (rRepT0 K))))
theorem op_mulA {X : Cx} {K : PySem.W.Frag} (hK : X.K = K) : OpR X (binaryOp .Mult) (rMulA K) := by
  subst hK
  exact op_or2 op_mul (op_or2 op_mulW (op_or2 op_rep (op_or2 op_repTA op_repT0)))
def rEqA (K : PySem.W.Frag) : R2 := r2or rEq (rEqD K)
def rNeA (K : PySem.W.Frag) : R2 := r2or rNe (rNeD K)
theorem op_eqA {X : Cx} {K : PySem.W.Frag} (hK : X.K = K) (hu : X.A.units + 64 < cLine) : OpR X (compareOp .Eq) (rEqA K) := by
  subst hK
  exact op_or2 op_eq (op_eqD hu)
theorem op_neA {X : Cx} {K : PySem.W.Frag} (hK : X.K = K) (hu : X.A.units + 64 < cLine) : OpR X (compareOp .NotEq) (rNeA K) := by
  subst hK
  exact op_or2 op_ne (op_neD hu)
theorem op_inA {X : Cx} {K : PySem.W.Frag} (hK : X.K = K) : OpR X (compareOp .In) (rIn K false) := by
  subst hK
  exact op_in_seq
theorem op_notInA {X : Cx} {K : PySem.W.Frag} (hK : X.K = K) : OpR X (compareOp .NotIn) (rIn K true) := by
  subst hK
  exact op_notIn_seq
def rIsA : R2 := r2or (fun x y H Q => y = .non ∧ Q (.bl (decide (x = .non))) H) rIsW
def rNotA : R2 := r2or (fun x y H Q => y = .non ∧ Q (.bl (!decide (x = .non))) H) rNotW
theorem op_isA {X : Cx} : OpR X (compareOp .Is) rIsA := op_or2 op_isN op_isW
theorem op_notA {X : Cx} : OpR X (compareOp .IsNot) rNotA := op_or2 op_notN op_notW
def rIxA (K : PySem.W.Frag) : R2 := fun x y H Q => rIxL K x y H Q ∨ rIxT K x y H Q
theorem ix_A {X : Cx} {K : PySem.W.Frag} (hK : X.K = K) : IxR X (rIxA K) := by
  subst hK
  exact ix_list.or ix_tup
def rSlA (K : PySem.W.Frag) : V → Option Int → Option Int → Hp → VK → Prop := fun x lo hi H Q => rSlL K x lo hi H Q ∨ rSlT K x lo hi H Q
theorem sl_A {X : Cx} {K : PySem.W.Frag} (hK : X.K = K) : SlR X (rSlA K) := by
  subst hK
  exact sl_list.or sl_tup
def iSeq (K : PySem.W.Frag) (t : TE) : TI := iOr (iList K t) (iTup K t)
theorem pi_seq {X : Cx} {K : PySem.W.Frag} {tg l : Expr} {t : TE} (hK : X.K = K) (h : PE X l t) : PI X tg l (iSeq K t) := by
  subst hK
  exact pi_or (pi_list h) (pi_tup h)
theorem pg_tupA {X : Cx} {K : PySem.W.Frag} {es : List Expr} {k : Nat} {t : TGs} {n : Nat} {pos : Pos} (hK : X.K = K) (hc : X.calm = true) (h : PGs X es t)
    (hn : (assignEach es X.env).length = n := by rfl) (hst : (assignEach es X.env).findIdx? (·.1) = none := by rfl) : PG X (.Tuple es k pos) (gTup K n t) := by
  subst hK
  exact pg_tup hc h hn hst
def rLen (K : PySem.W.Frag) : List V → Hp → VK → Prop := fun xs H Q => ∃ p ys, xs = [.ref p] ∧ (SqL K H p ys ∨ SqT K H p ys) ∧ Q (.int ys.length) H
theorem cr_len {X : Cx} {K : PySem.W.Frag} (hK : X.K = K) : CallR X (.builtin "len") (rLen K) := by
  subst hK
  exact call_len_seq
def rListA (K : PySem.W.Frag) : List V → Hp → VK → Prop := fun xs H Q => ∃ p ys, xs = [.ref p] ∧ (SqL K H p ys ∨ SqT K H p ys) ∧ ∀ l, H l = none → Q (.ref l) (upd H l (.lst ys))
theorem cr_list {X : Cx} {K : PySem.W.Frag} (hK : X.K = K) : CallR X (.type "list") (rListA K) := by
  subst hK
  exact call_list_of
def rTupleA (K : PySem.W.Frag) : List V → Hp → VK → Prop := fun xs H Q => ∃ p ys, xs = [.ref p] ∧ ((SqL K H p ys ∧ ∀ l, H l = none → Q (.ref l) (upd H l (.tup ys))) ∨ (SqT K H p ys ∧ Q (.ref p) H))
theorem cr_tuple {X : Cx} {K : PySem.W.Frag} (hK : X.K = K) : CallR X (.type "tuple") (rTupleA K) := by
  subst hK
  exact call_tuple_of
theorem cr_isi {X : Cx} {K : PySem.W.Frag} (hK : X.K = K) : CallR X (.builtin "isinstance") (rIsi K) := by
  subst hK
  exact call_isi
theorem cr_isi2 {X : Cx} {K : PySem.W.Frag} (hK : X.K = K) : CallR X (.builtin "isinstance") (rIsiT K) := by
  subst hK
  exact call_isiT
theorem cr_sumA {X : Cx} {K : PySem.W.Frag} (hK : X.K = K) (hc : X.calm = true) : CallR X (.builtin "sum") (rSum K) := by
  subst hK
  exact cr_sum hc
def tTru (K : PySem.W.Frag) (t : TE) : TT := fun σ H Q => t σ H fun x H' => ∃ k, TruV K x H' k ∧ Q k H'
theorem pt_tru {X : Cx} {K : PySem.W.Frag} {a : Expr} {ta : TE} (hK : X.K = K) (ha : PE X a ta) (he : ∀ whole, isTrue a X.env whole = (do let v ← whole; standAt a.pos; holding [v] (truthy v)) := by intro _; rfl) : PT X a (tTru K ta) := by
  subst hK
  exact pt_truth ha he
theorem pe_bmA {X : Cx} {K : PySem.W.Frag} {e : Expr} {f : PySem.W.Frag → TE} (hK : X.K = K) (h : PE X e (f X.K)) : PE X e (f K) := by
  subst hK
  exact h
section
variable {K : PySem.W.Frag} {b : CTB}
/-- by values: a list that is laid is one's own, all else is never written again -/
def OpE (K : PySem.W.Frag) (b : CTB) (r : R2) (op : D → D → Option D) : Prop := ∀ R H x y dx dy, Same R H → Rep K b R x dx → Rep K b R y dy → ∀ Q : VK, (match op dx dy with
  | some (.ols ds) => ∀ p vs, H p = none → Reps K b R vs ds → Q (.ref p) (upd H p (.lst vs))
  | some d => ∀ v R' H', Ext R H R' H' → Rep K b R' v d → Q v H'
  | none => False) → r x y H Q
def oAddA : D → D → Option D
  | .int i, .int j => some (.int (i + j))
  | .str x, .str y => if x.length + y.length ≤ 100000 then some (.str (x ++ y)) else none
  | .lst xs, .lst ys => if xs.length + ys.length ≤ 100000 then some (.ols (xs ++ ys)) else none
  | .tup xs, .tup ys => if xs.length + ys.length ≤ 100000 then some (.tup (xs ++ ys)) else none
  | _, _ => none
theorem so_addA : OpE K b (rAddA K) oAddA := fun R H x y dx dy s rx ry Q q => by
  cases dx <;> cases dy <;> simp only [oAddA] at q <;> try exact q.elim
  · exact .inl (so_add R H x y _ _ s rx ry Q q)
  · rename_i x y
    cases rx.str_inv; cases ry.str_inv
    by_cases l : x.length + y.length ≤ 100000
    · rw [if_pos l] at q
      exact .inr (.inr (.inr ⟨x, y, rfl, rfl, Nat.le_trans l (by decide), q _ R H (Ext.refl s) (.str _)⟩))
    · rw [if_neg l] at q; exact q.elim
  · rename_i xs ys
    refine .inr (.inl (so_cat R H x y _ _ s rx ry Q ?_))
    simp only [oCat]
    by_cases l : xs.length + ys.length ≤ 100000
    · rw [if_pos l] at q ⊢; exact q
    · rw [if_neg l] at q; exact q.elim
  · rename_i xs ys
    by_cases l : xs.length + ys.length ≤ 100000
    · rw [if_pos l] at q
      obtain ⟨a, vs, rfl, h1, r1⟩ := rx.tup_inv
      obtain ⟨c, ws, rfl, h2, r2⟩ := ry.tup_inv
      refine .inr (.inr (.inl ⟨a, c, vs, ws, rfl, rfl, SqT.mono s h1, SqT.mono s h2, by rw [r1.1, r2.1]; exact Nat.le_trans l (by decide), fun z => ?_, fun _ z => ?_, fun _ _ p hp => ?_⟩))
      · subst z
        cases (List.eq_nil_of_length_eq_zero r1.1.symm)
        exact q _ R H (Ext.refl s) ry
      · subst z
        cases (List.eq_nil_of_length_eq_zero r2.1.symm)
        rw [List.append_nil] at q
        exact q _ R H (Ext.refl s) rx
      · have x := Ext.new (o := .tup (vs ++ ws)) s hp
        exact q _ _ _ x (.tup (.inl (.inl upd_same)) (by simp [r1.1, r2.1]) ((r1.app r2).mono x.r).2)
    · rw [if_neg l] at q; exact q.elim
/-- below 2 ^ 64 -/
def sml (i : Int) : Bool := decide (-18446744073709551616 < i ∧ i < 18446744073709551616)
def oMulA : D → D → Option D
  | .int i, .int j => if (sml i || sml j || (big i && big j)) = true then some (.int (i * j)) else none
  | .lst xs, .int k => if k < 100000 ∧ xs.length * k.toNat ≤ 100000 ∧ -100000 < k then some (.ols (List.replicate k.toNat xs).flatten) else none
  | .tup xs, .int k => if xs ≠ [] ∧ -1000 ≤ k ∧ k ≤ 1000 ∧ xs.length ≤ 1000 then some (.tup (List.replicate k.toNat xs).flatten) else none
  | _, _ => none
theorem Reps.flat {R : Hp} {vs : List V} {ds : List D} (r : Reps K b R vs ds) : ∀ n : Nat, Reps K b R (List.replicate n vs).flatten (List.replicate n ds).flatten
  | 0 => .nil
  | n + 1 => by
    rw [List.replicate_succ, List.replicate_succ, List.flatten_cons, List.flatten_cons]
    exact r.app (Reps.flat r n)
theorem so_mulA : OpE K b (rMulA K) oMulA := fun R H x y dx dy s rx ry Q q => by
  cases dx <;> cases dy <;> simp only [oMulA] at q <;> try exact q.elim
  · rename_i i j
    cases rx.int_inv; cases ry.int_inv
    by_cases l : (sml i || sml j || (big i && big j)) = true
    · rw [if_pos l] at q
      have fin := q (.int (i * j)) R H (Ext.refl s) (.int _)
      simp only [Bool.or_eq_true, Bool.and_eq_true, sml, decide_eq_true_eq] at l
      rcases l with (l | l) | l
      · exact .inl ⟨i, j, rfl, rfl, .inl (by simpa using l), fin⟩
      · exact .inl ⟨i, j, rfl, rfl, .inr (by simpa using l), fin⟩
      · refine .inr (.inl ⟨i, j, rfl, rfl, ?_, fin⟩)
        simp only [big, decide_eq_true_eq] at l
        show i.natAbs.log2 + j.natAbs.log2 < 1000000
        omega
    · rw [if_neg l] at q; exact q.elim
  · rename_i xs k
    obtain ⟨a, vs, rfl, h1, r1⟩ := rx.lst_inv
    cases ry.int_inv
    by_cases l : k < 100000 ∧ xs.length * k.toNat ≤ 100000 ∧ -100000 < k
    · rw [if_pos l] at q
      refine .inr (.inr (.inl ⟨a, k, vs, rfl, rfl, s _ _ h1, ?_, ?_, by rw [r1.1]; exact Nat.le_trans l.2.1 (by decide), fun p hp => q p _ hp (r1.flat _)⟩))
      · simp only [Int.reducePow]; omega
      · simp only [Int.reducePow]; omega
    · rw [if_neg l] at q; exact q.elim
  · rename_i xs k
    obtain ⟨a, vs, rfl, h1, r1⟩ := rx.tup_inv
    cases ry.int_inv
    by_cases l : xs ≠ [] ∧ -1000 ≤ k ∧ k ≤ 1000 ∧ xs.length ≤ 1000
    · rw [if_pos l] at q
      have hne : vs ≠ [] := fun z => l.1 (by
        have := r1.1
        rw [z] at this
        exact List.eq_nil_of_length_eq_zero this.symm)
      by_cases k1 : 1 ≤ k
      · refine .inr (.inr (.inr (.inl ⟨a, k, vs, rfl, rfl, SqT.mono s h1, hne, k1, l.2.2.1, by rw [r1.1]; exact l.2.2.2, fun e => ?_, fun e p hp => ?_⟩)))
        · subst e
          have : (List.replicate (1 : Int).toNat xs).flatten = xs := by simp
          rw [this] at q
          exact q _ R H (Ext.refl s) rx
        · have x := Ext.new (o := .tup (List.replicate k.toNat vs).flatten) s hp
          have t := (r1.flat k.toNat).mono x.r
          exact q _ _ _ x (.tup (.inl (.inl upd_same)) t.1 t.2)
      · have : k.toNat = 0 := by omega
        rw [this] at q
        refine .inr (.inr (.inr (.inr ⟨a, k, vs, rfl, rfl, SqT.mono s h1, hne, l.2.1, by omega, fun p hp => ?_⟩)))
        have x := Ext.new (o := .tup []) s hp
        exact q _ _ _ x (.tup (.inl (.inl upd_same)) rfl (Reps.nil (K := K) (ct := b) (R := upd R p (.tup []))).2)
    · rw [if_neg l] at q; exact q.elim
/-! == -/
mutual
def toPy : D → Option PyData
  | .non => some .none | .bl r => some (.bool r) | .int i => some (.int i) | .str x => some (.str x)
  | .lst ds => (toPys ds).map .list
  | .tup ds => (toPys ds).map .tuple
  | .tpx ds => (toPys ds).map .tuple
  | .hole _ => none | .ols _ => none | .ins _ _ _ => none | .scr _ => none | .dct _ _ _ => none | .odc _ _ _ => none | .oin _ _ _ => none | .fn _ => none | .cls _ => none
def toPys : List D → Option (List PyData)
  | [] => some []
  | d :: ds => match toPy d, toPys ds with
    | some x, some xs => some (x :: xs)
    | _, _ => none
end
mutual
theorem dp_of {R : Hp} : ∀ (d : D) (v : V) (p : PyData), toPy d = some p → Rep K b R v d → Dp K R v p
  | .non, _, _, h, r => by cases r; cases h; exact .non
  | .bl _, _, _, h, r => by cases r; cases h; exact .bl _
  | .int _, _, _, h, r => by cases r; cases h; exact .int _
  | .str _, _, _, h, r => by cases r; cases h; exact .str _
  | .lst ds, _, _, h, r => by
    obtain ⟨a, vs, rfl, e, t⟩ := r.lst_inv
    rw [toPy] at h
    obtain ⟨ps, h1, h2⟩ := Option.map_eq_some_iff.mp h
    subst h2
    exact .lst (.inl (.inl e)) (dps_of ds vs ps h1 t)
  | .tup ds, _, _, h, r => by
    obtain ⟨a, vs, rfl, e, t⟩ := r.tup_inv
    rw [toPy] at h
    obtain ⟨ps, h1, h2⟩ := Option.map_eq_some_iff.mp h
    subst h2
    exact .tup e (dps_of ds vs ps h1 t)
  | .tpx ds, _, _, h, r => by
    obtain ⟨a, vs, rfl, e, t⟩ := r.tpx_tup.tup_inv
    rw [toPy] at h
    obtain ⟨ps, h1, h2⟩ := Option.map_eq_some_iff.mp h
    subst h2
    exact .tup e (dps_of ds vs ps h1 t)
  | .hole _, _, _, h, _ => by cases h
  | .ols _, _, _, h, _ => by cases h
  | .ins _ _ _, _, _, h, _ => by cases h
  | .scr _, _, _, h, _ => by cases h
  | .dct _ _ _, _, _, h, _ => by cases h
  | .odc _ _ _, _, _, h, _ => by cases h
  | .oin _ _ _, _, _, h, _ => by cases h
  | .fn _, _, _, h, _ => by cases h
  | .cls _, _, _, h, _ => by cases h
theorem dps_of {R : Hp} : ∀ (ds : List D) (vs : List V) (ps : List PyData), toPys ds = some ps → Reps K b R vs ds → DpAll K R vs ps
  | [], _, _, h, r => by
    cases r.nil_inv
    cases h
    exact .nil
  | d :: ds, _, _, h, r => by
    obtain ⟨v, ws, rfl, r1, r2⟩ := r.cons_inv
    rw [toPys] at h
    split at h
    · rename_i x xs e1 e2
      cases h
      exact .cons (dp_of d v x e1 r1) (dps_of ds ws xs e2 r2)
    · cases h
end
def eqDp (x y : D) : Option Bool := match toPy x, toPy y with
  | some d, some e => if (SeqAt.shaped d && SeqAt.shaped e) = true then some (PyData.eqv d e) else none
  | _, _ => none
def eqA (x y : D) : Option Bool := (eqS x y).orElse fun _ => eqDp x y
def oEqA (x y : D) : Option D := (eqA x y).map D.bl
def oNeA (x y : D) : Option D := (eqA x y).map fun r => D.bl (!r)
theorem eqDp_some {R : Hp} {x y : V} {dx dy : D} {r : Bool} (h : eqDp dx dy = some r) (rx : Rep K b R x dx) (ry : Rep K b R y dy) : ∃ d e, Dp K R x d ∧ Dp K R y e ∧ SeqAt.shaped d = true ∧ SeqAt.shaped e = true ∧ PyData.eqv d e = r := by
  unfold eqDp at h
  split at h
  · rename_i d e h1 h2
    split at h
    · rename_i hs
      cases h
      obtain ⟨s1, s2⟩ := Bool.and_eq_true_iff.mp hs
      exact ⟨d, e, dp_of _ _ _ h1 rx, dp_of _ _ _ h2 ry, s1, s2, rfl⟩
    · cases h
  · cases h
theorem so_eqA : OpF K b (rEqA K) oEqA := fun R H x y dx dy s rx ry Q q => by
  unfold oEqA eqA at q
  cases e : eqS dx dy with
  | some r =>
    rw [e] at q
    obtain ⟨h1, h2⟩ := eqS_some e rx ry
    exact .inl ⟨h1, q _ R H (Ext.refl s) (by rw [h2]; exact .bl r)⟩
  | none =>
    rw [e] at q
    dsimp only [Option.orElse] at q
    cases e2 : eqDp dx dy with
    | none => rw [e2] at q; exact q.elim
    | some r =>
      rw [e2] at q
      obtain ⟨d, e', h1, h2, s1, s2, h3⟩ := eqDp_some e2 (rx.mono s) (ry.mono s)
      exact .inr ⟨d, e', h1, h2, s1, s2, q _ R H (Ext.refl s) (by rw [h3]; exact .bl r)⟩
theorem so_neA : OpF K b (rNeA K) oNeA := fun R H x y dx dy s rx ry Q q => by
  unfold oNeA eqA at q
  cases e : eqS dx dy with
  | some r =>
    rw [e] at q
    obtain ⟨h1, h2⟩ := eqS_some e rx ry
    exact .inl ⟨h1, q _ R H (Ext.refl s) (by rw [h2]; exact .bl _)⟩
  | none =>
    rw [e] at q
    dsimp only [Option.orElse] at q
    cases e2 : eqDp dx dy with
    | none => rw [e2] at q; exact q.elim
    | some r =>
      rw [e2] at q
      obtain ⟨d, e', h1, h2, s1, s2, h3⟩ := eqDp_some e2 (rx.mono s) (ry.mono s)
      exact .inr ⟨d, e', h1, h2, s1, s2, q _ R H (Ext.refl s) (by rw [h3]; exact .bl _)⟩
def oIsA (x y : D) : Option D := match y with
  | .non => some (.bl (isN x))
  | _ => (isW x y).map D.bl
def oNotA (x y : D) : Option D := match y with
  | .non => some (.bl (!isN x))
  | _ => (isW x y).map fun r => D.bl (!r)
theorem so_isA : OpF K b rIsA oIsA := fun R H x y dx dy s rx ry Q q => by
  cases dy <;> simp only [oIsA] at q
  · exact .inl (so_isN R H x y _ _ s rx ry Q (by simp only [oIsN]; exact q))
  all_goals exact .inr (so_isW R H x y _ _ s rx ry Q q)
theorem so_notA : OpF K b rNotA oNotA := fun R H x y dx dy s rx ry Q q => by
  cases dy <;> simp only [oNotA] at q
  · exact .inl (so_notN R H x y _ _ s rx ry Q (by simp only [oNotN]; exact q))
  all_goals exact .inr (so_notW R H x y _ _ s rx ry Q q)
def oIxA (x y : D) : Option D := match x with
  | .lst ds => ixO ds y
  | .tup ds => ixO ds y
  | .tpx ds => ixO ds y
  | _ => none
theorem so_ixA : OpF K b (rIxA K) oIxA := fun R H x y dx dy s rx ry Q q => by
  cases dx <;> simp only [oIxA] at q <;> try exact q.elim
  · exact .inl (so_ix R H x y _ _ s rx ry Q q)
  · exact .inr (so_ixT R H x y _ _ s rx ry Q q)
  · exact .inr (so_ixT R H x y (.tup _) _ s rx.tpx_tup ry Q q)
def asI : D → Option Int
  | .int i => some i
  | _ => none
def oSum : List D → Option D
  | [.lst ds] => (ds.mapM asI).map fun ns => .int ns.sum
  | _ => none
theorem ints_of : ∀ {ds : List D} {ns : List Int}, ds.mapM asI = some ns → ds = ns.map D.int
  | [], ns, h => by
    cases h
    rfl
  | d :: ds, ns, h => by
    rw [List.mapM_cons] at h
    obtain ⟨i, h1, h2⟩ := Option.bind_eq_some_iff.mp h
    obtain ⟨is, h3, h4⟩ := Option.bind_eq_some_iff.mp h2
    cases h4
    cases d <;> simp only [asI] at h1 <;> cases h1
    rw [List.map_cons, ← ints_of h3]
theorem Reps.ints_inv {R : Hp} : ∀ {ns : List Int} {vs : List V}, Reps K b R vs (ns.map D.int) → vs = ns.map V.int
  | [], vs, r => r.nil_inv
  | n :: ns, vs, r => by
    obtain ⟨v, ws, rfl, r1, r2⟩ := r.cons_inv
    cases r1.int_inv
    rw [List.map_cons, ← Reps.ints_inv r2]
theorem so_sum : CbF K b (rSum K) oSum := fun R H vs ds s r Q q => by
  match ds, q, r with
  | [.lst es], q, r =>
    obtain ⟨v, rfl, r1⟩ := one r
    obtain ⟨a, us, rfl, h, t⟩ := r1.lst_inv
    simp only [oSum] at q
    cases e : es.mapM asI with
    | none => rw [e] at q; exact q.elim
    | some ns =>
      rw [e] at q
      have e2 := ints_of e
      subst e2
      cases t.ints_inv
      exact ⟨a, ns, rfl, .inl (.inl (s _ _ h)), q _ R H (Ext.refl s) (.int _)⟩
end
section
variable {K : PySem.W.Frag} {ct : CT} {ms : List Nat} {W : WX} {H0 R R' H H' : Hp} {vp : Nat → V} {ρ : Env} {σ : L2.St}
theorem sim_opE {r : R2} {op : D → D → Option D} {ta tb : TE} {f g : M D} (ho : OpE K ct.b r op) (hf : SimF K ct ms vp W ta f) (hg : SimF K ct ms vp W tb g) : SimE K ct ms vp W (tOp r ta tb) (mOp op f g) := fun H0 ρ σ R H ok Q q =>
  hf H0 ρ σ R H ok _ (Po.mono (Po.bind q) fun d ρ1 q v R1 H1 g1 ok1 r1 =>
    hg H0 ρ1 σ R1 H1 ok1 _ (Po.gr g1 (Po.bind q) fun d2 ρ2 q v2 R2 H2 g2 ok2 r2 => by
      obtain ⟨d3, e, q⟩ := Po.opt q
      refine ho R2 H2 v v2 d d2 ok2.same (r1.mono g2.1) r2 Q ?_
      rw [e]
      have fr : ∀ v3 R3 H3, Ext R2 H2 R3 H3 → Rep K ct.b R3 v3 d3 → Q v3 H3 := fun v3 R3 H3 x r3 => q v3 R3 H3 ((g1.trans g2).trans (ok2.gr x)) ((ok2.ext x).temp r3) ok2.len.symm
      cases d3 with
      | ols ds => exact fun p vs hp r3 => q (.ref p) R2 _ (g1.trans g2) (ok2.list hp r3) ok2.len.symm
      | _ => exact fr))
def mItA (f : M D) : M (List D) := mB f fun d => mO (seqD d)
theorem sim_seqI {t : TE} {f : M D} (hf : SimF K ct ms vp W t f) : SimI K ct ms vp W (iSeq K t) (mItA f) := fun H0 ρ σ R H ok Rr q => by
  have q := Po.bind q
  cases e : f ρ with
  | st => rw [e] at q; exact q.elim
  | ex c x ρ1 =>
    rw [e] at q
    exact .inl (hf H0 ρ σ R H ok _ (by rw [e]; exact q))
  | ok d ρ1 =>
    rw [e] at q
    have q : Po K ct ms vp W H0 σ R _ (mO (seqD d) ρ1) := q
    obtain ⟨ds, e2, q⟩ := Po.opt q
    cases d <;> simp only [seqD] at e2 <;> try (cases e2; done)
    · cases e2
      refine .inl (hf H0 ρ σ R H ok _ ?_)
      rw [e]
      intro v R1 H1 g1 ok1 r1
      obtain ⟨a, vs, rfl, h, r⟩ := r1.lst_inv
      exact ⟨a, rfl, ⟨vs, .inl (.inl (ok1.same _ _ h))⟩, q _ R1 H1 g1 ok1 (itok_list h r)⟩
    · cases e2
      refine .inr (hf H0 ρ σ R H ok _ ?_)
      rw [e]
      intro v R1 H1 g1 ok1 r1
      obtain ⟨a, vs, rfl, h, r⟩ := r1.tup_inv
      exact ⟨a, rfl, ⟨vs, SqT.mono ok1.same h⟩, q _ R1 H1 g1 ok1 (itok_tup h r)⟩
    · cases e2
      refine .inr (hf H0 ρ σ R H ok _ ?_)
      rw [e]
      intro v R1 H1 g1 ok1 r1
      obtain ⟨a, vs, rfl, h, r⟩ := r1.tpx_tup.tup_inv
      exact ⟨a, rfl, ⟨vs, SqT.mono ok1.same h⟩, q _ R1 H1 g1 ok1 (itok_tup h r)⟩
/-- an item of what stands in a slot -/
def sqOf (x : Option (Option D)) : Option (List D) := (seqOf x).orElse fun _ => tupOf x
def mIxAV (i : Nat) (g : M D) : M D := mB (mGet fun ρ => sqOf ρ[i]?) fun _ => mB g fun x => mB (mGet fun ρ => sqOf ρ[i]?) fun ds => mO (ixD ds x)
theorem Ok.sq (ok : Ok K ct H0 ms vp ρ σ R H) {i : Nat} {ds : List D} (e : sqOf ρ[i]? = some ds) :
    ∃ a vs, σ[i]? = some (some (.ref a)) ∧ (SqL K H a vs ∨ SqT K H a vs) ∧ vs.length = ds.length ∧ ∀ (k : Nat) (v : V) (d : D), vs[k]? = some v → ds[k]? = some d → d.isO = false → Rep K ct.b R v d := by
  unfold sqOf at e
  cases e1 : seqOf ρ[i]? with
  | some es =>
    rw [e1] at e
    cases e
    obtain ⟨d, e2, e3⟩ := seqOf_some e1
    obtain ⟨a, vs, x, y, l, rd⟩ := ok.seq e2 e3
    exact ⟨a, vs, x, .inl (sql0 y), l, rd⟩
  | none =>
    rw [e1] at e
    obtain ⟨a, vs, x, y, r⟩ := ok.tupS (tupOf_some e)
    exact ⟨a, vs, x, .inr y, r.1, fun k v d p q _ => r.2 k v d p q⟩
theorem sim_ixAV {i : Nat} {tb : TE} {g : M D} (hg : SimF K ct ms vp W tb g) : SimF K ct ms vp W (tOp (rIxA K) (tVar i) tb) (mIxAV i g) := fun H0 ρ σ R H ok Q q => by
  obtain ⟨ds0, e0, q⟩ := Po.get (Po.bind q)
  obtain ⟨a0, vs0, x0, _⟩ := ok.sq e0
  refine ⟨.ref a0, x0, hg H0 ρ σ R H ok _ (Po.mono (Po.bind q) fun d ρ1 q w R1 H1 g1 ok1 r1 => ?_)⟩
  obtain ⟨ds, e, q⟩ := Po.get (Po.bind q)
  obtain ⟨a, vs, x, y, l, rd⟩ := ok1.sq e
  cases x0.symm.trans x
  obtain ⟨d3, e4, q⟩ := Po.opt q
  obtain ⟨n, e5, h1, h2⟩ := ixD_some e4
  rw [e5] at r1
  obtain ⟨j, u, _, k1, k2, k3⟩ := atI_len (xs := vs) l h1
  have fin := q u R1 H1 g1 ok1 (rd j u d3 k1 k2 h2)
  rcases y with y | y
  · exact .inl ⟨a0, vs, n, u, rfl, r1.int_inv, y, k3, fin⟩
  · exact .inr ⟨a0, vs, n, u, rfl, r1.int_inv, y, k3, fin⟩
/-- a part -/
def slA (d : D) (lo hi : Option Int) : Option D := match d with
  | .lst ds => some (.ols (cutD ds lo hi))
  | .tup ds => (notAll ds.length lo hi).map fun _ => .tup (cutD ds lo hi)
  | _ => none
def mSlA (f : M D) (l h : M (Option Int)) : M D := mB f fun d => mB l fun lo => mB h fun hi => mO (slA d lo hi)
theorem sim_slA {te : TE} {tl th : TO} {f : M D} {l h : M (Option Int)} (hf : SimF K ct ms vp W te f) (hl : SimPO K ct ms vp W tl l) (hh : SimPO K ct ms vp W th h) : SimE K ct ms vp W (tSl (rSlA K) te tl th) (mSlA f l h) := fun H0 ρ σ R H ok Q q =>
  hf H0 ρ σ R H ok _ (Po.mono (Po.bind q) fun d ρ1 q v R1 H1 g1 ok1 r1 =>
    hl H0 ρ1 σ R1 H1 ok1 _ (Po.gr g1 (Po.bind q) fun lo ρ2 q R2 H2 g2 ok2 =>
      hh H0 ρ2 σ R2 H2 ok2 _ (Po.gr (g1.trans g2) (Po.bind q) fun hi ρ3 q R3 H3 g3 ok3 => by
        obtain ⟨d', e, q⟩ := Po.opt q
        have r3 := r1.mono (g2.trans g3).1
        have gg := (g1.trans g2).trans g3
        cases d <;> simp only [slA] at e <;> try (cases e; done)
        · cases e
          obtain ⟨a, vs, rfl, h, t⟩ := r3.lst_inv
          refine .inl ⟨a, vs, rfl, .inl (.inl (ok3.same _ _ h)), fun p hp => ?_⟩
          exact q (.ref p) R3 _ gg (ok3.list hp (t.cut lo hi)) ok3.len.symm
        · obtain ⟨_, na, e'⟩ := Option.map_eq_some_iff.mp e
          cases e'
          obtain ⟨a, vs, rfl, h, t⟩ := r3.tup_inv
          refine .inr ⟨a, vs, rfl, SqT.mono ok3.same h, fun z => ?_, fun p hp => ?_⟩
          · rw [t.1] at z
            unfold notAll at na
            rw [if_pos z] at na
            cases na
          · have x := Ext.new (o := .tup (cutV vs lo hi)) ok3.same hp
            have tc := (t.cut lo hi).mono x.r
            exact q (.ref p) _ _ (gg.trans (ok3.gr x)) ((ok3.ext x).temp (.tup (.inl (.inl upd_same)) tc.1 tc.2)) ok3.len.symm)))
/-! calls with values of parameters that are left out, and with names -/
def ArgsOk.app {vs ws : List V} {as bs : List Arg} (h : ArgsOk K ct σ R vs as) (g : ArgsOk K ct σ R ws bs) : ArgsOk K ct σ R (vs ++ ws) (as ++ bs) := by
  refine ⟨by simp [h.1, g.1], fun i v d a b => ?_⟩
  by_cases hi : i < vs.length
  · rw [List.getElem?_append_left hi] at a
    rw [List.getElem?_append_left (by rw [← h.1]; exact hi)] at b
    exact h.2 i v d a b
  · rw [List.getElem?_append_right (by omega)] at a
    rw [List.getElem?_append_right (by rw [← h.1]; omega), ← h.1] at b
    exact g.2 _ v d a b
theorem ArgsOk.of {vs : List V} {ds : List D} (r : Reps K ct.b R vs ds) : ArgsOk K ct σ R vs (ds.map Sum.inr) := by
  refine ⟨by simp [r.1], fun i v a x y => ?_⟩
  rw [List.getElem?_map] at y
  obtain ⟨d, e1, e2⟩ := Option.map_eq_some_iff.mp y
  subst e2
  exact r.2 i v d x e1
theorem ArgsOk.mono {vs : List V} {as : List Arg} (h : ArgsOk K ct σ R vs as) (s : Same R R') : ArgsOk K ct σ R' vs as := by
  refine ⟨h.1, fun i v a x y => ?_⟩
  have := h.2 i v a x y
  cases a with
  | inl j => exact this
  | inr d => exact Rep.mono this s
def bApp (f : M (List Arg)) (ds : List D) : M (List Arg) := mB f fun as => mP (as ++ ds.map Sum.inr)
theorem sim_callSD {ms' : List Nat} {m : List D → Ans} {f : M (List Arg)} {ta : TA} {dvs : List V} {dds : List D} (hf : SimB K ct ms vp W ta f) (hd : ∀ R, Reps K ct.b R dvs dds) : SimE K ct ms vp W (tCallSD (SpM K ct.b ms' m) dvs (WE W) ta) (mCall ms' m (bApp f dds)) := by
  have h : SimB K ct ms vp W (fun σ H Q => ta σ H fun vs H1 => Q (vs ++ dvs) H1) (bApp f dds) := fun H0 ρ σ R H ok Q q =>
    hf H0 ρ σ R H ok _ (Po.mono (Po.bind q) fun as ρ1 q vs R1 H1 g1 ok1 r1 => q (vs ++ dvs) R1 H1 g1 ok1 (r1.app (.of (hd R1))))
  exact call_core (ta := fun σ H Q => ta σ H fun vs H1 => Q (vs ++ dvs) H1) (S := fun σ vs H Q => SpM K ct.b ms' m vs H Q (WE W σ)) h fun _ _ _ _ h => h
/-- what is named, behind what is left out or ahead of it -/
def bKw (n j : Nat) (f : M (List Arg)) (g : M (List D)) (k : List Arg → List Arg → List Arg) : M (List Arg) := mB f fun as => mB g fun zs => if as.length = n ∧ zs.length = j then mP (k as (zs.map Sum.inr)) else fun _ => .st
theorem sim_callNS {ms' : List Nat} {m : List D → Ans} {f : M (List Arg)} {g : M (List D)} {ta tk : TA} {n j : Nat} {gV : List V → List V → List V} {k : List Arg → List Arg → List Arg} (hf : SimB K ct ms vp W ta f) (hg : SimA K ct ms vp W tk g)
    (hk : ∀ σ R vs zs as bs, ArgsOk K ct σ R vs as → ArgsOk K ct σ R zs bs → ArgsOk K ct σ R (gV vs zs) (k as bs)) :
    SimE K ct ms vp W (tCallNS n j (SpM K ct.b ms' m) gV (WE W) ta tk) (mCall ms' m (bKw n j f g k)) := by
  have h : SimB K ct ms vp W (fun σ H Q => ta σ H fun vs H1 => tk σ H1 fun zs H2 => vs.length = n ∧ zs.length = j ∧ Q (gV vs zs) H2) (bKw n j f g k) := fun H0 ρ σ R H ok Q q =>
    hf H0 ρ σ R H ok _ (Po.mono (Po.bind q) fun as ρ1 q vs R1 H1 g1 ok1 r1 =>
      hg H0 ρ1 σ R1 H1 ok1 _ (Po.gr g1 (Po.bind q) fun zs ρ2 q ws R2 H2 g2 ok2 r2 => by
        split at q
        · rename_i hl
          exact ⟨r1.1.trans hl.1, r2.1.trans hl.2, q (gV vs ws) R2 H2 (g1.trans g2) ok2 (hk σ R2 vs ws as _ (r1.mono g2.1) (.of r2))⟩
        · exact q.elim))
  exact call_core (ta := fun σ H Q => ta σ H fun vs H1 => tk σ H1 fun zs H2 => vs.length = n ∧ zs.length = j ∧ Q (gV vs zs) H2) (S := fun σ vs H Q => SpM K ct.b ms' m vs H Q (WE W σ)) h fun _ _ _ _ h => h
end
end Y

namespace Y
open PySem PySem.Spec PyProof.Rows L2
section
variable {K : PySem.W.Frag} {ct : CT} {ms : List Nat} {W : WX} {H0 R R' H H' : Hp} {vp : Nat → V} {ρ : Env} {σ : L2.St}
theorem sim_yes : SimT K ct ms vp W tYes (mP true) := fun H0 ρ σ R H ok Q q => q R H (Gr.refl _ _) ok
/-! list(range(..)) -/
def rgD (a b : Int) : List D := (List.range (b - a).toNat).map fun (i : Nat) => D.int (a + (i : Nat))
def rgOk (a b : Int) : Option Unit := if 0 ≤ a ∧ a ≤ 100000 ∧ 0 ≤ b ∧ b ≤ 100000 then some () else none
theorem rgOk_ok {a b : Int} {u : Unit} (h : rgOk a b = some u) : RgOk a b := by
  unfold rgOk at h
  split at h
  · exact RgOk.of_le (by omega) (by omega) (by omega) (by omega)
  · cases h
theorem reps_rg {b : CTB} (i j : Int) : Reps K b R (rgV i j) (rgD i j) := by
  unfold rgV rgD
  have := Reps.ints (K := K) (ct := b) (R := R) ((List.range (j - i).toNat).map fun (k : Nat) => i + (k : Nat))
  simpa [List.map_map, Function.comp_def] using this
def mListRg1 (f : M D) : M D := mB f fun d => mB (mO (asI d)) fun n => mB (mO (rgOk 0 n)) fun _ => mP (.ols (rgD 0 n))
theorem asI_some {d : D} {n : Int} (h : asI d = some n) : d = .int n := by cases d <;> simp [asI] at h; rw [h]
theorem sim_listRg1 {t : TE} {f : M D} (hf : SimF K ct ms vp W t f) : SimE K ct ms vp W (tLstRg (tRg1 t)) (mListRg1 f) := fun H0 ρ σ R H ok Q q =>
  hf H0 ρ σ R H ok _ (Po.mono (Po.bind q) fun d ρ1 q v R1 H1 g1 ok1 r1 => by
    obtain ⟨n, e, q⟩ := Po.opt (Po.bind q)
    obtain ⟨u, e2, q⟩ := Po.opt (Po.bind q)
    rw [asI_some e] at r1
    exact ⟨n, r1.int_inv, rgOk_ok e2, fun p hp => q (.ref p) R1 _ g1 (ok1.list hp (reps_rg 0 n)) ok1.len.symm⟩)
def mListRg2 (f g : M D) : M D := mB f fun d => mB g fun e => mB (mO (asI d)) fun i => mB (mO (asI e)) fun j => mB (mO (rgOk i j)) fun _ => mP (.ols (rgD i j))
theorem sim_listRg2 {t u : TE} {f g : M D} (hf : SimF K ct ms vp W t f) (hg : SimF K ct ms vp W u g) : SimE K ct ms vp W (tLstRg (tRg2 t u)) (mListRg2 f g) := fun H0 ρ σ R H ok Q q =>
  hf H0 ρ σ R H ok _ (Po.mono (Po.bind q) fun d ρ1 q v R1 H1 g1 ok1 r1 =>
    hg H0 ρ1 σ R1 H1 ok1 _ (Po.gr g1 (Po.bind q) fun d2 ρ2 q v2 R2 H2 g2 ok2 r2 => by
      obtain ⟨i, e, q⟩ := Po.opt (Po.bind q)
      obtain ⟨j, e2, q⟩ := Po.opt (Po.bind q)
      obtain ⟨u, e3, q⟩ := Po.opt (Po.bind q)
      rw [asI_some e] at r1
      rw [asI_some e2] at r2
      exact ⟨i, j, r1.int_inv, r2.int_inv, rgOk_ok e3, fun p hp => q (.ref p) R2 _ (g1.trans g2) (ok2.list hp (reps_rg i j)) ok2.len.symm⟩))
/-! isinstance of the error that is looked at -/
def mIsX (cX : Nat) (r : Bool) (c : Nat) (x : Option D) : M D := fun ρ => if c = cX ∧ x.isSome = true then .ok (.bl r) ρ else .st
theorem sim_isX {i c cX : Nat} {r : Bool} {x : Option D} {a : Addr} {od : Option Addr} {C Y : Addr} {vp' : Nat → V} {ms' : List Nat} (hC : C = ct.b.err cX) (hi : i ∈ ms') (hv : vp' i = .ref a) (hk : PySem.W.kitOne K (.ref C) (.ref Y) = some r) :
    SimF K (ct.with K c x od) ms' vp' W (tCB (rIsX K C a (.ref (ct.b.err c)) od) (tCons (tVar i) (tCons (tC (.ref Y)) tNil))) (mIsX cX r c x) := fun H0 ρ σ R H ok Q q => by
  unfold mIsX at q
  split at q
  · rename_i hc
    obtain ⟨rfl, hx⟩ := hc
    refine ⟨.ref a, by rw [ok.pins i hi, hv], ?_⟩
    have iv := ok.inv.2
    cases x with
    | none => cases hx
    | some d =>
      obtain ⟨dd, v, e1, e2, r1⟩ := iv
      exact ⟨.ref Y, .ref Y, r, dd, _, rfl, by rw [hC], e1, ok.same _ _ e2, fun u h => h, hk, q (.bl r) R H (Gr.refl _ _) ok (.bl r)⟩
  · exact q.elim
def mIsN (cX : Nat) (r : Bool) (c : Nat) (x : Option D) : M D := fun ρ => if c = cX ∧ x.isNone = true then .ok (.bl r) ρ else .st
theorem sim_isN {i c cX : Nat} {r : Bool} {x : Option D} {a : Addr} {od : Option Addr} {C Y : Addr} {vp' : Nat → V} {ms' : List Nat} (hC : C = ct.b.err cX) (hi : i ∈ ms') (hv : vp' i = .ref a) (hk : PySem.W.kitOne K (.ref C) (.ref Y) = some r) :
    SimF K (ct.with K c x od) ms' vp' W (tCB (_root_.Y.rIsN K C a (.ref (ct.b.err c)) od) (tCons (tVar i) (tCons (tC (.ref Y)) tNil))) (mIsN cX r c x) := fun H0 ρ σ R H ok Q q => by
  unfold mIsN at q
  split at q
  · rename_i hc
    obtain ⟨rfl, hx⟩ := hc
    refine ⟨.ref a, by rw [ok.pins i hi, hv], ?_⟩
    have iv := ok.inv.2
    cases x with
    | some d => cases hx
    | none => exact ⟨by rw [hC], iv, .ref Y, .ref Y, r, rfl, fun u h => h, hk, q (.bl r) R H (Gr.refl _ _) ok (.bl r)⟩
  · exact q.elim
/-! calls that let nothing out, with values left out or named -/
theorem sim_callSD0 {ms' : List Nat} {m : List D → Ans} {f : M (List Arg)} {ta : TA} {dvs : List V} {dds : List D} {E : L2.St → XK} (hf : SimB K ct ms vp W ta f) (hd : ∀ R, Reps K ct.b R dvs dds) : SimE K ct ms vp W (tCallSD (SpM K ct.b ms' m) dvs E ta) (mCall ms' (noX m) (bApp f dds)) := by
  have h : SimB K ct ms vp W (fun σ H Q => ta σ H fun vs H1 => Q (vs ++ dvs) H1) (bApp f dds) := fun H0 ρ σ R H ok Q q =>
    hf H0 ρ σ R H ok _ (Po.mono (Po.bind q) fun as ρ1 q vs R1 H1 g1 ok1 r1 => q (vs ++ dvs) R1 H1 g1 ok1 (r1.app (.of (hd R1))))
  exact call_core (ta := fun σ H Q => ta σ H fun vs H1 => Q (vs ++ dvs) H1) (S := fun σ vs H Q => SpM K ct.b ms' m vs H Q (E σ)) h fun σ _ _ _ h => h.noX (E σ)
theorem sim_callNS0 {ms' : List Nat} {m : List D → Ans} {f : M (List Arg)} {g : M (List D)} {ta tk : TA} {n j : Nat} {gV : List V → List V → List V} {k : List Arg → List Arg → List Arg} {E : L2.St → XK} (hf : SimB K ct ms vp W ta f) (hg : SimA K ct ms vp W tk g)
    (hk : ∀ σ R vs zs as bs, ArgsOk K ct σ R vs as → ArgsOk K ct σ R zs bs → ArgsOk K ct σ R (gV vs zs) (k as bs)) :
    SimE K ct ms vp W (tCallNS n j (SpM K ct.b ms' m) gV E ta tk) (mCall ms' (noX m) (bKw n j f g k)) := by
  have h : SimB K ct ms vp W (fun σ H Q => ta σ H fun vs H1 => tk σ H1 fun zs H2 => vs.length = n ∧ zs.length = j ∧ Q (gV vs zs) H2) (bKw n j f g k) := fun H0 ρ σ R H ok Q q =>
    hf H0 ρ σ R H ok _ (Po.mono (Po.bind q) fun as ρ1 q vs R1 H1 g1 ok1 r1 =>
      hg H0 ρ1 σ R1 H1 ok1 _ (Po.gr g1 (Po.bind q) fun zs ρ2 q ws R2 H2 g2 ok2 r2 => by
        split at q
        · rename_i hl
          exact ⟨r1.1.trans hl.1, r2.1.trans hl.2, q (gV vs ws) R2 H2 (g1.trans g2) ok2 (hk σ R2 vs ws as _ (r1.mono g2.1) (.of r2))⟩
        · exact q.elim))
  exact call_core (ta := fun σ H Q => ta σ H fun vs H1 => tk σ H1 fun zs H2 => vs.length = n ∧ zs.length = j ∧ Q (gV vs zs) H2) (S := fun σ vs H Q => SpM K ct.b ms' m vs H Q (E σ)) h fun σ _ _ _ h => h.noX (E σ)
end
theorem SpM.unX {K : PySem.W.Frag} {b : CTB} {ms' : List Nat} {m : List D → Ans} {vs : List V} {H : Hp} {Q : VK} {E : XK} (h : SpM K b ms' (Y.noX m) vs H Q E) (E' : XK) : SpM K b ms' m vs H Q E' := SpM.noX (ct := b.triv) h E'
/-! which errors a clause takes -/
def fitsD (yes : List Nat) (n : Nat) (c : Nat) : Option Bool := if c < n then some (decide (c ∈ yes)) else none
/-- an error's __init__ -/
theorem err_init {K : PySem.W.Frag} {C a : Addr} {f msg : Str} {v : V} {H : Hp} {Q : VK} {N : List Str} (oc : OexC K C) (no : PySem.W.findIn K (.ref C) f = some none) (ha : H a = some (exo a C none))
    (k : ∀ dx, H dx = none → dx ≠ a → Q .non (upd (upd H dx (exd dx [(f, v)])) a (exo a C (some dx)))) :
    tSeq (tDrop (tVeI K (tCons (tVar 0) (tCons (tC (.str msg)) tNil)))) (tOst K f (tVar 0) (tVar 1)) { nx := fun _ H' => Q .non H', rt := Q } (L2.start N [.ref a, v]) H := by
  refine ⟨.ref a, rfl, a, C, [.str msg], rfl, by simp, oc, ha, ?_⟩
  exact ⟨v, rfl, .ref a, rfl, a, C, rfl, oc, no, .inl ⟨ha, fun dx h1 h2 => k dx h1 h2⟩⟩
theorem SpM.none {K : PySem.W.Frag} {b : CTB} {ms : List Nat} {vs : List V} {H : Hp} {Q : VK} {E : XK} (h : SpM K b ms (fun _ => .st) vs H Q E) : False := by
  obtain ⟨_, _, _, _, q⟩ := h
  exact q
/-- the law's call -/
theorem law_sp {K : PySem.W.Frag} {b : CTB} {m : List D → Ans} (ht : ∀ ns : List Int, ns.length ≤ 63 → m [.scr ns] = .ok (.bl true) []) {vs : List V} {H : Hp} {Q : VK} {E : XK}
    (h : ∃ (a : Addr) (ns : List Int), vs = [.ref a] ∧ SqL K H a (ns.map V.int) ∧ ns.length ≤ 63 ∧ ∀ H', Q (.bl true) H') : SpM K b [] m vs H Q E := by
  obtain ⟨a, ns, rfl, hs, hl, k⟩ := h
  refine ⟨H, H, [.scr ns], ⟨Same.refl _, Same.refl _, trivial, rfl, fun i hi => (by cases hi), fun _ _ => False, fun i d h => ?_, fun _ _ _ _ h => h.elim, fun _ _ h => h.elim⟩, ?_⟩
  · cases i with
    | zero =>
      cases (show D.scr ns = d by simpa using h)
      exact ⟨.ref a, rfl, .fz (.scr hs)⟩
    | succ i => simp at h
  · rw [ht ns hl]
    intro v R' H' _ _ ok
    obtain ⟨u, x, r⟩ := ok.slot (i := 0) (d := .bl true) (by rfl) rfl
    cases (show v = u by simpa [pickV] using x)
    cases r.bl_inv
    exact k H'
end Y

namespace Y
open PySem PySem.Spec PyProof.Rows L2
/-! ### reckoning: what a piece gives at given slots -/
def bK {α β : Type} : Res α → (α → M β) → Res β
  | .ok a ρ, g => g a ρ
  | .ex c x ρ, _ => .ex c x ρ
  | .st, _ => .st
def tK {α : Type} : Res α → (α → Stm) → Out
  | .ok a ρ, g => g a ρ
  | .ex c x ρ, _ => .ex c x ρ
  | .st, _ => .st
def sK : Out → Stm → Out
  | .nx ρ, g => g ρ
  | .rt d ρ, _ => .rt d ρ | .bk ρ, _ => .bk ρ | .ct ρ, _ => .ct ρ | .ex c x ρ, _ => .ex c x ρ | .st, _ => .st
def oK {α : Type} : Option α → Env → Res α
  | some a, ρ => .ok a ρ
  | none, _ => .st
def eK : Option (Option D) → Env → Nat → Res D
  | some (some d), ρ, i => if d.isO = true then .ok d.fz (ρ.set i (some d.fz)) else .ok d ρ
  | _, _, _ => .st
def cK : Ans → List Nat → Nat → Env → Res D
  | .ok d w, is, n, ρ => if w.length = n then .ok d (putW is w ρ) else .st
  | .ex c x w, is, n, ρ => if w.length = n then .ex c x (putW is w ρ) else .st
  | .st, _, _, _ => .st
def fK : Out → List Nat → Ans
  | .nx ρ, ms => match getW ms ρ with
      | some w => .ok .non w
      | none => .st
  | .rt d ρ, ms => match getW ms ρ with
      | some w => .ok d w
      | none => .st
  | .ex c x ρ, ms => match getW ms ρ with
      | some w => .ex c x w
      | none => .st
  | _, _ => .st
def xK : Ans → Ans
  | .ok d w => .ok d w
  | _ => .st
section
variable {α β : Type} {ρ : Env}
@[simp] theorem bK_ok {a : α} {g : α → M β} : bK (.ok a ρ) g = g a ρ := (rfl)
@[simp] theorem bK_ex {c x} {g : α → M β} : bK (.ex c x ρ) g = .ex c x ρ := (rfl)
@[simp] theorem tK_ok {a : α} {g : α → Stm} : tK (.ok a ρ) g = g a ρ := (rfl)
@[simp] theorem tK_ex {c x} {g : α → Stm} : tK (.ex c x ρ) g = .ex c x ρ := (rfl)
@[simp] theorem sK_nx {g : Stm} : sK (.nx ρ) g = g ρ := (rfl)
@[simp] theorem sK_rt {d : D} {g : Stm} : sK (.rt d ρ) g = .rt d ρ := (rfl)
@[simp] theorem sK_bk {g : Stm} : sK (.bk ρ) g = .bk ρ := (rfl)
@[simp] theorem sK_ct {g : Stm} : sK (.ct ρ) g = .ct ρ := (rfl)
@[simp] theorem sK_ex {c x} {g : Stm} : sK (.ex c x ρ) g = .ex c x ρ := (rfl)
@[simp] theorem oK_some {a : α} : oK (some a) ρ = .ok a ρ := (rfl)
@[simp] theorem eK_some {d : D} {i : Nat} : eK (some (some d)) ρ i = if d.isO = true then .ok d.fz (ρ.set i (some d.fz)) else .ok d ρ := (rfl)
@[simp] theorem cK_ok {d : D} {w : List D} {is : List Nat} {n : Nat} : cK (.ok d w) is n ρ = if w.length = n then .ok d (putW is w ρ) else .st := (rfl)
@[simp] theorem cK_ex {c x} {w : List D} {is : List Nat} {n : Nat} : cK (.ex c x w) is n ρ = if w.length = n then .ex c x (putW is w ρ) else .st := (rfl)
@[simp] theorem fK_nx {ms : List Nat} : fK (.nx ρ) ms = match getW ms ρ with | some w => .ok .non w | none => .st := (rfl)
@[simp] theorem fK_rt {d : D} {ms : List Nat} : fK (.rt d ρ) ms = match getW ms ρ with | some w => .ok d w | none => .st := (rfl)
@[simp] theorem fK_ex {c x} {ms : List Nat} : fK (.ex c x ρ) ms = match getW ms ρ with | some w => .ex c x w | none => .st := (rfl)
@[simp] theorem xK_ok {d : D} {w : List D} : xK (.ok d w) = .ok d w := (rfl)
@[simp] theorem a_mB {f : M α} {g : α → M β} : mB f g ρ = bK (f ρ) g := by unfold mB bK; cases f ρ <;> rfl
@[simp] theorem a_mThen {f : M α} {g : α → Stm} : mThen f g ρ = tK (f ρ) g := by unfold mThen tK; cases f ρ <;> rfl
@[simp] theorem a_mSeq {f g : Stm} : mSeq f g ρ = sK (f ρ) g := by unfold mSeq sK; cases f ρ <;> rfl
@[simp] theorem a_mP {a : α} : mP a ρ = .ok a ρ := (rfl)
@[simp] theorem a_mO {x : Option α} : mO x ρ = oK x ρ := by cases x <;> rfl
@[simp] theorem a_mGet {f : Env → Option α} : mGet f ρ = oK (f ρ) ρ := by unfold mGet oK; cases f ρ <;> rfl
@[simp] theorem a_mPut {i : Nat} {d : D} : mPut i d ρ = .ok () (ρ.set i (some d)) := (rfl)
@[simp] theorem a_mVar {i : Nat} : mVar i ρ = eK ρ[i]? ρ i := by
  unfold mVar
  rcases ρ[i]? with _ | _ | d <;> rfl
@[simp] theorem a_frz {f : M D} : frz f ρ = bK (f ρ) fun d => mP d.fz := a_mB
@[simp] theorem a_mOp {op : D → D → Option D} {f g : M D} : mOp op f g ρ = bK (f ρ) fun x => mB g fun y => mO (op x y) := a_mB
@[simp] theorem a_mUn {op : D → Option D} {f : M D} : mUn op f ρ = bK (f ρ) fun x => mO (op x) := a_mB
@[simp] theorem a_mNil : mNil ρ = .ok [] ρ := (rfl)
@[simp] theorem a_mCons {f : M D} {g : M (List D)} : mCons f g ρ = bK (f ρ) fun x => mB g fun xs => mP (x :: xs) := a_mB
@[simp] theorem a_mLst {g : M (List D)} : mLst g ρ = bK (g ρ) fun ds => mB (mO (szok ds.length)) fun _ => mP (.ols ds) := a_mB
@[simp] theorem a_mTup {g : M (List D)} : mTup g ρ = bK (g ρ) fun ds => mB (mO (szok ds.length)) fun _ => mP (.tup ds) := a_mB
@[simp] theorem a_mCb {op : List D → Option D} {g : M (List D)} : mCb op g ρ = bK (g ρ) fun ds => mO (op ds) := a_mB
@[simp] theorem a_mCbL {op : List D → Option (List D)} {g : M (List D)} : mCbL op g ρ = bK (g ρ) fun ds => mB (mO (op ds)) fun es => mP (.ols es) := a_mB
@[simp] theorem a_mTest {f : M D} : mTest f ρ = bK (f ρ) fun d => mO (asB d) := a_mB
@[simp] theorem a_mAnd {f g : M Bool} : mAnd f g ρ = bK (f ρ) fun b => if b = true then g else mP false := a_mB
@[simp] theorem a_mOr {f g : M Bool} : mOr f g ρ = bK (f ρ) fun b => if b = true then mP true else g := a_mB
@[simp] theorem a_mNot {f : M Bool} : mNot f ρ = bK (f ρ) fun b => mP (!b) := a_mB
@[simp] theorem a_mAndV {f g : M D} : mAndV f g ρ = bK (mTest f ρ) fun b => if b = true then g else mP (.bl false) := a_mB
@[simp] theorem a_mOrV {f g : M D} : mOrV f g ρ = bK (mTest f ρ) fun b => if b = true then mP (.bl true) else g := a_mB
@[simp] theorem a_mNotV {f : M D} : mNotV f ρ = bK (mTest f ρ) fun b => mP (.bl (!b)) := a_mB
@[simp] theorem a_mIf {c : M Bool} {f g : M α} : mIf c f g ρ = bK (c ρ) fun b => if b = true then f else g := a_mB
@[simp] theorem a_mChain {op op' : D → D → Option D} {f g h : M D} : mChain op op' f g h ρ = bK (f ρ) fun x => mB g fun y => mB (mO ((op x y).bind asB)) fun b => if b = true then mB h fun z => mO (op' y z) else mP (.bl false) := a_mB
@[simp] theorem a_mIxAV {i : Nat} {g : M D} : mIxAV i g ρ = bK (oK (sqOf ρ[i]?) ρ) fun _ => mB g fun x => mB (mGet fun ρ => sqOf ρ[i]?) fun ds => mO (ixD ds x) := by rw [mIxAV, a_mB, a_mGet]
@[simp] theorem a_mLenV {i : Nat} : mLenV i ρ = bK (oK ((seqOf ρ[i]?).orElse fun _ => tupOf ρ[i]?) ρ) fun ds => mP (.int ds.length) := by rw [mLenV, a_mB, a_mGet]
@[simp] theorem a_mTru {f : M D} : mTru f ρ = bK (f ρ) fun d => mO (truD d) := a_mB
@[simp] theorem a_mTruV {i : Nat} : mTruV i ρ = bK (oK (seqOf ρ[i]?) ρ) fun ds => mP (!ds.isEmpty) := by rw [mTruV, a_mB, a_mGet]
@[simp] theorem a_mPNo : mPNo ρ = .ok none ρ := (rfl)
def asO : D → Option (Option Int)
  | .int i => some (some i)
  | _ => none
@[simp] theorem asO_int {i : Int} : asO (.int i) = some (some i) := (rfl)
@[simp] theorem a_mPSome {f : M D} : mPSome f ρ = bK (f ρ) fun d => mO (asO d) := by
  rw [mPSome, a_mB]
  congr 1
@[simp] theorem a_mSlA {f : M D} {l h : M (Option Int)} : mSlA f l h ρ = bK (f ρ) fun d => mB l fun lo => mB h fun hi => mO (slA d lo hi) := a_mB
@[simp] theorem a_mIsi {T : Ty} {f : M D} : mIsi T f ρ = bK (f ρ) fun d => mO ((isTy T d).map D.bl) := a_mB
@[simp] theorem a_mIsi2 {f : M D} : mIsi2 f ρ = bK (f ρ) fun d => mO ((isSq d).map D.bl) := a_mB
def app1 (i : Nat) (ds : List D) : List D → M D
  | [x] => mB (mO (szok ds.length)) fun _ => mB (mPut i (.ols (ds ++ [x]))) fun _ => mP .non
  | _ => fun _ => .st
@[simp] theorem app1_one {i : Nat} {ds : List D} {x : D} : app1 i ds [x] ρ = bK (oK (szok ds.length) ρ) fun _ => mB (mPut i (.ols (ds ++ [x]))) fun _ => mP .non := by rw [app1, a_mB, a_mO]
@[simp] theorem a_mAppend {i : Nat} {g : M (List D)} : mAppend i g ρ = bK (oK (olsOf ρ[i]?) ρ) fun _ => mB g fun xs => mB (mGet fun ρ => olsOf ρ[i]?) fun ds => app1 i ds xs := by
  rw [mAppend, a_mB, a_mGet]
  rfl
@[simp] theorem a_mExtend {i : Nat} {g : M D} : mExtend i g ρ = bK (oK (olsOf ρ[i]?) ρ) fun _ => mB g fun x => mB (mGet fun ρ => olsOf ρ[i]?) fun ds => mB (mO (flatO x)) fun xs => mB (mO (szok (ds.length + xs.length))) fun _ => mB (mPut i (.ols (ds ++ xs))) fun _ => mP .non := by rw [mExtend, a_mB, a_mGet]
def popL (ds : List D) : Option (D × List D) := match ds.getLast? with
  | some d => if d.isO = true then none else some (d, ds.dropLast)
  | none => none
@[simp] theorem popL_snoc {ds : List D} {d : D} (h : d.isO = false) : popL (ds ++ [d]) = some (d, ds) := by simp [popL, h]
@[simp] theorem a_mPop {i : Nat} : mPop i ρ = bK (oK (olsOf ρ[i]?) ρ) fun ds => mB (mO (popL ds)) fun z => mB (mPut i (.ols z.2)) fun _ => mP z.1 := by
  rw [mPop, a_mB, a_mGet]
  congr 1
  funext ds ρ
  rw [a_mB, a_mO]
  unfold popL
  cases ds.getLast? with
  | none => rfl
  | some d =>
    dsimp only
    by_cases h : d.isO = true
    · rw [if_pos h, if_pos h]; rfl
    · rw [if_neg h, if_neg h]; rfl
@[simp] theorem a_mPopAt {i : Nat} {g : M (List D)} : mPopAt i g ρ = bK (oK (olsOf ρ[i]?) ρ) fun _ => mB g fun xs => mB (mGet fun ρ => olsOf ρ[i]?) fun ds => mB (mO (popD ds xs)) fun z => mB (mPut i (.ols (ds.eraseIdx z.1))) fun _ => mP z.2 := by rw [mPopAt, a_mB, a_mGet]
@[simp] theorem a_bNil : bNil ρ = .ok [] ρ := (rfl)
@[simp] theorem a_bCons {f : M D} {g : M (List Arg)} : bCons f g ρ = bK (f ρ) fun x => mB g fun xs => mP (.inr x :: xs) := a_mB
@[simp] theorem a_bSlot {i : Nat} {g : M (List Arg)} : bSlot i g ρ = bK (oK (ρ[i]?).join ρ) fun _ => mB g fun xs => mP (.inl i :: xs) := by rw [bSlot, a_mB, a_mGet]
@[simp] theorem a_bApp {f : M (List Arg)} {ds : List D} : bApp f ds ρ = bK (f ρ) fun as => mP (as ++ ds.map Sum.inr) := a_mB
@[simp] theorem a_bKw {n j : Nat} {f : M (List Arg)} {g : M (List D)} {k : List Arg → List Arg → List Arg} : bKw n j f g k ρ = bK (f ρ) fun as => mB g fun zs => if as.length = n ∧ zs.length = j then mP (k as (zs.map Sum.inr)) else fun _ => .st := a_mB
/-- a call, its arguments known -/
def callD (ms' : List Nat) (m : List D → Ans) (as : List Arg) (ds : List D) : M D := if (brw 0 as).map (·.1) = ms' ∧ ((brw 0 as).map (·.2)).Nodup then fun ρ => cK (m ds) ((brw 0 as).map (·.2)) ms'.length ρ else fun _ => .st
@[simp] theorem a_mCall {ms' : List Nat} {m : List D → Ans} {f : M (List Arg)} : mCall ms' m f ρ = bK (f ρ) fun as => mB (mGet fun ρ => argsD ρ as) fun ds => callD ms' m as ds := by
  rw [mCall, a_mB]
  congr 1
  funext as ρ
  rw [a_mB, a_mB]
  congr 1
  funext ds
  unfold callD
  split
  · funext ρ
    unfold cK
    cases m ds <;> rfl
  · rfl
@[simp] theorem callD_0 {m : List D → Ans} {ds : List D} {as : List Arg} (h : brw 0 as = []) : callD [] m as ds ρ = cK (m ds) [] 0 ρ := by
  unfold callD
  rw [h, if_pos ⟨rfl, List.nodup_nil⟩]
  rfl
@[simp] theorem callD_1 {m : List D → Ans} {ds : List D} {as : List Arg} {p i : Nat} (h : brw 0 as = [(p, i)]) : callD [p] m as ds ρ = cK (m ds) [i] 1 ρ := by
  unfold callD
  rw [h, if_pos ⟨rfl, by simp⟩]
  rfl
@[simp] theorem a_noX {m : List D → Ans} {ds : List D} : noX m ds = xK (m ds) := by unfold noX xK; cases m ds <;> rfl
@[simp] theorem a_mkFn {np n : Nat} {ms : List Nat} {body : Stm} {ds : List D} : mkFn np n ms body ds = if ds.length = np then fK (body (ds.map some ++ List.replicate (n - ds.length) none)) ms else .st := by
  unfold mkFn fK
  split
  · cases body (ds.map some ++ List.replicate (n - ds.length) none) <;> rfl
  · rfl
@[simp] theorem a_mNext : mNext ρ = .nx ρ := (rfl)
@[simp] theorem a_mSet {i : Nat} {f : M D} : mSet i f ρ = tK (f ρ) fun d ρ => .nx (ρ.set i (some d)) := a_mThen
@[simp] theorem a_mRet {f : M D} : mRet f ρ = tK (f ρ) fun d ρ => .rt d ρ := a_mThen
@[simp] theorem a_mRetN : mRetN ρ = .rt .non ρ := (rfl)
@[simp] theorem a_mDrop {f : M D} : mDrop f ρ = tK (f ρ) fun _ ρ => .nx ρ := a_mThen
@[simp] theorem a_mIfS {c : M Bool} {f g : Stm} : mIfS c f g ρ = tK (c ρ) fun b => if b = true then f else g := a_mThen
@[simp] theorem a_mBrk : mBrk ρ = .bk ρ := (rfl)
@[simp] theorem a_mCnt : mCnt ρ = .ct ρ := (rfl)
def outO : Option Env → Out
  | some ρ => .nx ρ
  | none => .st
@[simp] theorem outO_some : outO (some ρ) = .nx ρ := (rfl)
@[simp] theorem a_mTo {tg : D → Env → Option Env} {f : M D} : mTo tg f ρ = tK (f ρ) fun d ρ => outO (tg d ρ) := by
  rw [mTo, a_mThen]
  congr 1
@[simp] theorem a_mSetIx {i : Nat} {f g : M D} : mSetIx i f g ρ = tK (f ρ) fun x => mThen (mGet fun ρ => olsOf ρ[i]?) fun _ => mThen g fun j => mThen (mGet fun ρ => olsOf ρ[i]?) fun ds => mThen (mO (ixSet ds j)) fun n ρ => .nx (ρ.set i (some (.ols (ds.set n x)))) := a_mThen
def intOf : Option (Option D) → Option Int
  | some (some (.int n)) => some n
  | _ => none
@[simp] theorem intOf_int {n : Int} : intOf (some (some (.int n))) = some n := (rfl)
@[simp] theorem a_mAug {i : Nat} {op : Int → Int → Int} {f : M D} : mAug i op f ρ = tK (oK (intOf ρ[i]?) ρ) fun n => mThen f fun d => mThen (mO (asI d)) fun k ρ => .nx (ρ.set i (some (.int (op n k)))) := by
  rw [mAug, a_mThen, a_mGet]
  rfl
def lK : Res (List D) → (D → Env → Option Env) → Stm → Out
  | .ok ds ρ, tg, body => mLoop tg body ds ρ
  | .ex c x ρ, _, _ => .ex c x ρ
  | .st, _, _ => .st
@[simp] theorem lK_ok {ds : List D} {tg : D → Env → Option Env} {body : Stm} : lK (.ok ds ρ) tg body = mLoop tg body ds ρ := (rfl)
@[simp] theorem a_mFor {it : M (List D)} {tg : D → Env → Option Env} {body : Stm} : mFor it tg body ρ = lK (it ρ) tg body := by
  rw [mFor, a_mThen]
  unfold tK lK
  cases it ρ <;> rfl
@[simp] theorem a_mItA {f : M D} : mItA f ρ = bK (f ρ) fun d => mO (seqD d) := a_mB
@[simp] theorem a_mRg1 {g : M (List D)} : mRg1 g ρ = bK (g ρ) fun ds => mO (rg1 ds) := a_mB
@[simp] theorem a_mRg2 {g : M (List D)} : mRg2 g ρ = bK (g ρ) fun ds => mO (rg2 ds) := a_mB
@[simp] theorem a_mListRg1 {f : M D} : mListRg1 f ρ = bK (f ρ) fun d => mB (mO (asI d)) fun n => mB (mO (rgOk 0 n)) fun _ => mP (.ols (rgD 0 n)) := a_mB
@[simp] theorem a_mListRg2 {f g : M D} : mListRg2 f g ρ = bK (f ρ) fun d => mB g fun e => mB (mO (asI d)) fun i => mB (mO (asI e)) fun j => mB (mO (rgOk i j)) fun _ => mP (.ols (rgD i j)) := a_mB
def gK : Option (List D × Env) → Res D
  | some (acc, ρ) => .ok (.ols acc) ρ
  | none => .st
@[simp] theorem gK_some {acc : List D} : gK (some (acc, ρ)) = .ok (.ols acc) ρ := (rfl)
@[simp] theorem a_mLc {it : M (List D)} {tg : D → Env → Option Env} {test : M Bool} {elt : M D} {vs : List Nat} : mLc it tg test elt vs ρ = bK (it ρ) fun ds ρ => gK (lcGo (lcStep tg test elt vs) vs ds [] (wipeE ρ vs)) := by
  rw [mLc, a_mB]
  congr 1
@[simp] theorem a_mLc2 {it : M (List D)} {tg : D → Env → Option Env} {test : M Bool} {it1 : M (List D)} {tg1 : D → Env → Option Env} {test1 : M Bool} {elt : M D} {vs vs1 : List Nat} : mLc2 it tg test it1 tg1 test1 elt vs vs1 ρ = bK (it ρ) fun ds ρ => gK (lc2Go (lc2Step tg test it1 (lcStep tg1 test1 elt vs1) vs vs1) vs ds [] (wipeE ρ vs)) := by
  rw [mLc2, a_mB]
  congr 1
/-! what values do -/
@[simp] theorem szok_s {n : Nat} (h : n ≤ 100000) : szok n = some () := if_pos h
@[simp] theorem isO_non : D.isO .non = false := (rfl)
@[simp] theorem isO_bl {b : Bool} : D.isO (.bl b) = false := (rfl)
@[simp] theorem isO_int {b : Int} : D.isO (.int b) = false := (rfl)
@[simp] theorem isO_str {b : Str} : D.isO (.str b) = false := (rfl)
@[simp] theorem isO_lst {b : List D} : D.isO (.lst b) = false := (rfl)
@[simp] theorem isO_tup {b : List D} : D.isO (.tup b) = false := (rfl)
@[simp] theorem isO_scr {b : List Int} : D.isO (.scr b) = false := (rfl)
@[simp] theorem isO_ols {b : List D} : D.isO (.ols b) = true := (rfl)
@[simp] theorem fz_non : D.fz .non = .non := by simp [D.fz]
@[simp] theorem fz_bl {b : Bool} : D.fz (.bl b) = .bl b := by simp [D.fz]
@[simp] theorem fz_int {b : Int} : D.fz (.int b) = .int b := by simp [D.fz]
@[simp] theorem fz_str {b : Str} : D.fz (.str b) = .str b := by simp [D.fz]
@[simp] theorem fz_lst {b : List D} : D.fz (.lst b) = .lst b := by simp [D.fz]
@[simp] theorem fz_tup {b : List D} : D.fz (.tup b) = .tup b := by simp [D.fz]
@[simp] theorem fz_ols {b : List D} : D.fz (.ols b) = .lst (fzs b) := by simp [D.fz]
@[simp] theorem fzs_nil : fzs [] = [] := by simp [fzs]
@[simp] theorem fzs_cons {d : D} {ds : List D} : fzs (d :: ds) = d.fz :: fzs ds := by simp [fzs]
@[simp] theorem fzs_app {ds es : List D} : fzs (ds ++ es) = fzs ds ++ fzs es := by simp [fzs_eq]
@[simp] theorem fzs_ints {ns : List Int} : fzs (ns.map D.int) = ns.map D.int := by simp [fzs_eq, Function.comp_def]
@[simp] theorem seqOf_ols {ds : List D} : seqOf (some (some (.ols ds))) = some ds := (rfl)
@[simp] theorem seqOf_lst {ds : List D} : seqOf (some (some (.lst ds))) = some ds := (rfl)
@[simp] theorem seqOf_tup {ds : List D} : seqOf (some (some (.tup ds))) = none := (rfl)
@[simp] theorem tupOf_tup {ds : List D} : tupOf (some (some (.tup ds))) = some ds := (rfl)
@[simp] theorem olsOf_ols {ds : List D} : olsOf (some (some (.ols ds))) = some ds := (rfl)
@[simp] theorem sqOf_ols {ds : List D} : sqOf (some (some (.ols ds))) = some ds := (rfl)
@[simp] theorem sqOf_lst {ds : List D} : sqOf (some (some (.lst ds))) = some ds := (rfl)
@[simp] theorem sqOf_tup {ds : List D} : sqOf (some (some (.tup ds))) = some ds := (rfl)
@[simp] theorem seqD_lst {ds : List D} : seqD (.lst ds) = some ds := (rfl)
@[simp] theorem seqD_tup {ds : List D} : seqD (.tup ds) = some ds := (rfl)
@[simp] theorem asB_bl {b : Bool} : asB (.bl b) = some b := (rfl)
@[simp] theorem asI_int {b : Int} : asI (.int b) = some b := (rfl)
@[simp] theorem truD_non : truD .non = some false := (rfl)
@[simp] theorem truD_bl {b : Bool} : truD (.bl b) = some b := (rfl)
@[simp] theorem truD_lst {ds : List D} : truD (.lst ds) = some (!ds.isEmpty) := (rfl)
@[simp] theorem truD_tup {ds : List D} : truD (.tup ds) = some (!ds.isEmpty) := (rfl)
@[simp] theorem kName_ap {i : Nat} {d : D} : kName i d ρ = some (ρ.set i (some d)) := (rfl)
@[simp] theorem kNil_ap : kNil [] ρ = some ρ := (rfl)
@[simp] theorem kCons_ap {f : D → Env → Option Env} {g : List D → Env → Option Env} {d : D} {ds : List D} : kCons f g (d :: ds) ρ = (f d ρ).bind (g ds) := (rfl)
@[simp] theorem kTup_ap {n : Nat} {g : List D → Env → Option Env} {ds : List D} : kTup n g (.tup ds) ρ = if ds.length = n then g ds ρ else none := (rfl)
@[simp] theorem getW_nil : getW [] ρ = some [] := (rfl)
@[simp] theorem getW_cons {i : Nat} {ms : List Nat} : getW (i :: ms) ρ = (ρ[i]?).join.bind fun d => (getW ms ρ).map fun w => d :: w := by
  unfold getW
  rw [List.map_cons, argsD]
  simp only [argD]
  cases (ρ[i]?).join <;> cases argsD ρ (ms.map Sum.inl) <;> rfl
@[simp] theorem argsD_nil : argsD ρ [] = some [] := (rfl)
@[simp] theorem argsD_inr {d : D} {as : List Arg} : argsD ρ (.inr d :: as) = (argsD ρ as).map fun w => d :: w := by
  rw [argsD]
  simp only [argD]
  cases argsD ρ as <;> rfl
@[simp] theorem argsD_inl {i : Nat} {as : List Arg} : argsD ρ (.inl i :: as) = (ρ[i]?).join.bind fun d => (argsD ρ as).map fun w => d :: w := by
  rw [argsD]
  simp only [argD]
  cases (ρ[i]?).join <;> cases argsD ρ as <;> rfl
@[simp] theorem brw_nil {n : Nat} : brw n [] = [] := (rfl)
@[simp] theorem brw_inr {n : Nat} {d : D} {as : List Arg} : brw n (.inr d :: as) = brw (n + 1) as := (rfl)
@[simp] theorem brw_inl {n i : Nat} {as : List Arg} : brw n (.inl i :: as) = (n, i) :: brw (n + 1) as := (rfl)
@[simp] theorem putW_nil {w : List D} : putW [] w ρ = ρ := by cases w <;> rfl
@[simp] theorem putW_cons {i : Nat} {is : List Nat} {d : D} {w : List D} : putW (i :: is) (d :: w) ρ = putW is w (ρ.set i (some d)) := (rfl)
@[simp] theorem wipeE_nil : wipeE ρ [] = ρ := (rfl)
@[simp] theorem wipeE_cons {v : Nat} {vs : List Nat} : wipeE ρ (v :: vs) = (wipeE ρ vs).set v none := (rfl)
@[simp] theorem oI0_int {g : Int → Int → D} {i j : Int} : oI0 g (.int i) (.int j) = some (g i j) := (rfl)
@[simp] theorem oI_int {C : Int → Int → Bool} {g : Int → Int → Int} {i j : Int} : oI C g (.int i) (.int j) = if C i j = true then some (.int (g i j)) else none := (rfl)
@[simp] theorem oAddA_int {i j : Int} : oAddA (.int i) (.int j) = some (.int (i + j)) := (rfl)
@[simp] theorem oAddA_lst {xs ys : List D} : oAddA (.lst xs) (.lst ys) = if xs.length + ys.length ≤ 100000 then some (.ols (xs ++ ys)) else none := (rfl)
@[simp] theorem oAddA_tup {xs ys : List D} : oAddA (.tup xs) (.tup ys) = if xs.length + ys.length ≤ 100000 then some (.tup (xs ++ ys)) else none := (rfl)
@[simp] theorem oMulA_int {i j : Int} : oMulA (.int i) (.int j) = if (sml i || sml j || (big i && big j)) = true then some (.int (i * j)) else none := (rfl)
@[simp] theorem oMulA_lst {xs : List D} {k : Int} : oMulA (.lst xs) (.int k) = if k < 100000 ∧ xs.length * k.toNat ≤ 100000 ∧ -100000 < k then some (.ols (List.replicate k.toNat xs).flatten) else none := (rfl)
@[simp] theorem oMulA_tup {xs : List D} {k : Int} : oMulA (.tup xs) (.int k) = if xs ≠ [] ∧ -1000 ≤ k ∧ k ≤ 1000 ∧ xs.length ≤ 1000 then some (.tup (List.replicate k.toNat xs).flatten) else none := (rfl)
@[simp] theorem oEqA_int {i j : Int} : oEqA (.int i) (.int j) = some (.bl (decide (i = j))) := (rfl)
@[simp] theorem oNeA_int {i j : Int} : oNeA (.int i) (.int j) = some (.bl (!decide (i = j))) := (rfl)
@[simp] theorem oEqA_bl {i j : Bool} : oEqA (.bl i) (.bl j) = some (.bl (decide (i = j))) := (rfl)
@[simp] theorem oNeA_bl {i j : Bool} : oNeA (.bl i) (.bl j) = some (.bl (!decide (i = j))) := (rfl)
@[simp] theorem oEqA_str {i j : Str} : oEqA (.str i) (.str j) = some (.bl (decide (i = j))) := (rfl)
@[simp] theorem oNeA_str {i j : Str} : oNeA (.str i) (.str j) = some (.bl (!decide (i = j))) := (rfl)
@[simp] theorem oIsA_non {x : D} : oIsA x .non = some (.bl (isN x)) := (rfl)
@[simp] theorem oNotA_non {x : D} : oNotA x .non = some (.bl (!isN x)) := (rfl)
@[simp] theorem oIsA_bl {i j : Bool} : oIsA (.bl i) (.bl j) = some (.bl (decide (i = j))) := (rfl)
@[simp] theorem oNotA_bl {i j : Bool} : oNotA (.bl i) (.bl j) = some (.bl (!decide (i = j))) := (rfl)
@[simp] theorem oIsA_nbl {j : Bool} : oIsA .non (.bl j) = some (.bl false) := (rfl)
@[simp] theorem oNotA_nbl {j : Bool} : oNotA .non (.bl j) = some (.bl true) := (rfl)
@[simp] theorem isN_non : isN .non = true := (rfl)
@[simp] theorem isN_bl {b : Bool} : isN (.bl b) = false := (rfl)
@[simp] theorem isN_int {b : Int} : isN (.int b) = false := (rfl)
@[simp] theorem isN_str {b : Str} : isN (.str b) = false := (rfl)
@[simp] theorem isN_lst {b : List D} : isN (.lst b) = false := (rfl)
@[simp] theorem isN_tup {b : List D} : isN (.tup b) = false := (rfl)
@[simp] theorem oIxA_lst {ds : List D} {y : D} : oIxA (.lst ds) y = ixO ds y := (rfl)
@[simp] theorem oIxA_tup {ds : List D} {y : D} : oIxA (.tup ds) y = ixO ds y := (rfl)
theorem atI_get {α : Type} {xs : List α} {i : Int} (h0 : 0 ≤ i) (h1 : i < xs.length) : atI xs i = xs[i.toNat]? := by
  unfold atI ixN
  rw [if_pos h0, if_pos h1]
  rfl
@[simp] theorem atI_n {α : Type} {xs : List α} {n : Nat} : atI xs (n : Int) = xs[n]? := by
  unfold atI ixN
  rw [if_pos (by omega)]
  by_cases h : n < xs.length
  · rw [if_pos (by omega)]; simp
  · rw [if_neg (by omega), List.getElem?_eq_none (by omega)]; rfl
@[simp] theorem atI_0 {α : Type} {xs : List α} : atI xs 0 = xs[0]? := atI_n (n := 0)
@[simp] theorem atI_lit {α : Type} {xs : List α} {n : Nat} : atI xs (no_index (OfNat.ofNat n) : Int) = xs[n]? := atI_n (n := n)
@[simp] theorem atI_1 {α : Type} {xs : List α} : atI xs 1 = xs[1]? := atI_n (n := 1)
@[simp] theorem ixO_int {ds : List D} {i : Int} : ixO ds (.int i) = atI ds i := (rfl)
def ixq : Option D → Option D
  | some d => if d.isO = true then none else some d
  | none => none
@[simp] theorem ixq_some {d : D} : ixq (some d) = if d.isO = true then none else some d := (rfl)
@[simp] theorem ixD_int {ds : List D} {i : Int} : ixD ds (.int i) = ixq (atI ds i) := by
  unfold ixD ixq
  rfl
@[simp] theorem ixSet_n {ds : List D} {n : Nat} : ixSet ds (.int (n : Int)) = if n < ds.length then some n else none := by
  unfold ixSet ixN
  dsimp only
  rw [if_pos (by omega)]
  by_cases h : n < ds.length
  · rw [if_pos (by omega), if_pos h]; simp
  · rw [if_neg (by omega), if_neg h]
@[simp] theorem ixSet_0 {ds : List D} : ixSet ds (.int 0) = if 0 < ds.length then some 0 else none := ixSet_n (n := 0)
@[simp] theorem ixSet_1 {ds : List D} : ixSet ds (.int 1) = if 1 < ds.length then some 1 else none := ixSet_n (n := 1)
@[simp] theorem ixSet_lit {ds : List D} {n : Nat} : ixSet ds (.int (no_index (OfNat.ofNat n))) = if n < ds.length then some n else none := ixSet_n (n := n)
@[simp] theorem oLen_lst {ds : List D} : oLen [.lst ds] = some (.int ds.length) := (rfl)
@[simp] theorem oLen_tup {ds : List D} : oLen [.tup ds] = some (.int ds.length) := (rfl)
@[simp] theorem oInt_int {i : Int} : oInt [.int i] = some (.int i) := (rfl)
@[simp] theorem oInt_bl {k : Bool} : oInt [.bl k] = some (.int (if k then 1 else 0)) := (rfl)
@[simp] theorem oAbs_int {i : Int} : oAbs [.int i] = some (.int (if i < 0 then -i else i)) := (rfl)
@[simp] theorem oMin2_int {i j : Int} : oMin2 [.int i, .int j] = some (.int (if j < i then j else i)) := (rfl)
@[simp] theorem oMax2_int {i j : Int} : oMax2 [.int i, .int j] = some (.int (if j > i then j else i)) := (rfl)
@[simp] theorem oNeg_int {i : Int} : oNeg (.int i) = some (.int (-i)) := (rfl)
@[simp] theorem oList_lst {ds : List D} : oList [.lst ds] = some ds := (rfl)
@[simp] theorem oList_tup {ds : List D} : oList [.tup ds] = some ds := (rfl)
@[simp] theorem oList_scr {ns : List Int} : oList [.scr ns] = some (ns.map D.int) := (rfl)
@[simp] theorem oTuple_lst {ds : List D} : oTuple [.lst ds] = some (.tup ds) := (rfl)
@[simp] theorem oTuple_tup {ds : List D} : oTuple [.tup ds] = some (.tup ds) := (rfl)
@[simp] theorem oIn_lst {n : Bool} {x : D} {ds : List D} : oIn n x (.lst ds) = if (flD x && ds.all flD) = true then some (.bl (if n = true then !inD x ds else inD x ds)) else none := (rfl)
@[simp] theorem oIn_tup {n : Bool} {x : D} {ds : List D} : oIn n x (.tup ds) = if (flD x && ds.all flD) = true then some (.bl (if n = true then !inD x ds else inD x ds)) else none := (rfl)
@[simp] theorem flD_non : flD .non = true := (rfl)
@[simp] theorem flD_bl {b : Bool} : flD (.bl b) = true := (rfl)
@[simp] theorem flD_int {b : Int} : flD (.int b) = true := (rfl)
@[simp] theorem flD_str {b : Str} : flD (.str b) = true := (rfl)
@[simp] theorem flatO_ols {xs : List D} : flatO (.ols xs) = if xs.any D.isO = true then none else some xs := (rfl)
@[simp] theorem flatO_lst {xs : List D} : flatO (.lst xs) = some xs := (rfl)
/-- 0, 1, .. -/
def upto (n : Nat) : List D := (List.range n).map fun (k : Nat) => D.int (k : Int)
theorem upto_at {n i : Nat} {d : D} (h : (upto n)[i]? = some d) : i < n ∧ d = .int (i : Int) := by
  unfold upto at h
  rw [List.getElem?_map] at h
  obtain ⟨j, h1, h2⟩ := Option.map_eq_some_iff.mp h
  obtain ⟨h3, h4⟩ := List.getElem?_eq_some_iff.mp h1
  rw [List.getElem_range] at h4
  rw [List.length_range] at h3
  subst h4
  exact ⟨h3, h2.symm⟩
@[simp] theorem upto_len {n : Nat} : (upto n).length = n := by simp [upto]
@[simp] theorem rg1_int {j : Int} : rg1 [.int j] = if -(2 ^ 62) ≤ j ∧ j < 2 ^ 62 then some (upto j.toNat) else none := by simp [rg1, upto]
theorem rg1_n {n : Nat} (h : n ≤ 100000) : rg1 [.int (n : Int)] = some (upto n) := by
  rw [rg1_int, if_pos ⟨by omega, by omega⟩]
  rfl
@[simp] theorem rg2_int {i j : Int} : rg2 [.int i, .int j] = if -(2 ^ 62) ≤ i ∧ i < 2 ^ 62 ∧ -(2 ^ 62) ≤ j ∧ j < 2 ^ 62 then some ((List.range (j - i).toNat).map fun (k : Nat) => D.int (i + (k : Int))) else none := (rfl)
@[simp] theorem isTy_list_lst {b : List D} : isTy .list (.lst b) = some true := (rfl)
@[simp] theorem isTy_list_tup {b : List D} : isTy .list (.tup b) = some false := (rfl)
@[simp] theorem isTy_tuple_lst {b : List D} : isTy .tuple (.lst b) = some false := (rfl)
@[simp] theorem isTy_tuple_tup {b : List D} : isTy .tuple (.tup b) = some true := (rfl)
@[simp] theorem isSq_lst {b : List D} : isSq (.lst b) = some true := (rfl)
@[simp] theorem isSq_tup {b : List D} : isSq (.tup b) = some true := (rfl)
@[simp] theorem isSq_non : isSq .non = some false := (rfl)
@[simp] theorem isSq_bl {b : Bool} : isSq (.bl b) = some false := (rfl)
@[simp] theorem isSq_int {b : Int} : isSq (.int b) = some false := (rfl)
@[simp] theorem isSq_str {b : Str} : isSq (.str b) = some false := (rfl)
end
@[simp] theorem isTy_non {T : Ty} : isTy T .non = some false := by cases T <;> rfl
@[simp] theorem isTy_bool_bl {b : Bool} : isTy .bool (.bl b) = some true := (rfl)
@[simp] theorem isTy_bool_int {b : Int} : isTy .bool (.int b) = some false := (rfl)
@[simp] theorem isTy_bool_str {b : Str} : isTy .bool (.str b) = some false := (rfl)
@[simp] theorem isTy_bool_lst {b : List D} : isTy .bool (.lst b) = some false := (rfl)
@[simp] theorem isTy_bool_tup {b : List D} : isTy .bool (.tup b) = some false := (rfl)
@[simp] theorem isTy_int_bl {b : Bool} : isTy .int (.bl b) = some true := (rfl)
@[simp] theorem isTy_int_int {b : Int} : isTy .int (.int b) = some true := (rfl)
@[simp] theorem isTy_int_str {b : Str} : isTy .int (.str b) = some false := (rfl)
@[simp] theorem isTy_int_lst {b : List D} : isTy .int (.lst b) = some false := (rfl)
@[simp] theorem isTy_int_tup {b : List D} : isTy .int (.tup b) = some false := (rfl)
@[simp] theorem isTy_str_bl {b : Bool} : isTy .str (.bl b) = some false := (rfl)
@[simp] theorem isTy_str_int {b : Int} : isTy .str (.int b) = some false := (rfl)
@[simp] theorem isTy_str_str {b : Str} : isTy .str (.str b) = some true := (rfl)
@[simp] theorem isTy_str_lst {b : List D} : isTy .str (.lst b) = some false := (rfl)
@[simp] theorem isTy_str_tup {b : List D} : isTy .str (.tup b) = some false := (rfl)
@[simp] theorem isTy_list_bl {b : Bool} : isTy .list (.bl b) = some false := (rfl)
@[simp] theorem isTy_list_int {b : Int} : isTy .list (.int b) = some false := (rfl)
@[simp] theorem isTy_list_str {b : Str} : isTy .list (.str b) = some false := (rfl)
@[simp] theorem isTy_tuple_bl {b : Bool} : isTy .tuple (.bl b) = some false := (rfl)
@[simp] theorem isTy_tuple_int {b : Int} : isTy .tuple (.int b) = some false := (rfl)
@[simp] theorem isTy_tuple_str {b : Str} : isTy .tuple (.str b) = some false := (rfl)
theorem sml_of {i : Int} (h : -18446744073709551616 < i ∧ i < 18446744073709551616) : sml i = true := decide_eq_true h
theorem mapNat_inj : ∀ {a b : List Char}, a.map Char.toNat = b.map Char.toNat → a = b
  | [], [], _ => rfl
  | [], _ :: _, h => by cases h
  | _ :: _, [], h => by cases h
  | x :: a, y :: b, h => by
    rw [List.map_cons, List.map_cons] at h
    injection h with h1 h2
    rw [mapNat_inj h2, Char.toNat_inj.mp h1]
@[simp] theorem ofStr_inj {a b : String} : (Str.ofString a = Str.ofString b) ↔ a = b := by
  constructor
  · intro h
    rw [Str.ofString_eq_toList, Str.ofString_eq_toList] at h
    injection h with h
    exact String.toList_inj.mp (mapNat_inj (List.toArray_inj h))
  · rintro rfl; rfl
/-! ### loops -/
theorem loop_nx {tg : D → Env → Option Env} {body : Stm} (I : Nat → Env → Prop) : ∀ {ds : List D} {ρ : Env} {k : Nat}, I k ρ →
    (∀ i d ρ, ds[i]? = some d → I (k + i) ρ → ∃ ρ1 ρ2, tg d ρ = some ρ1 ∧ (body ρ1 = .nx ρ2 ∨ body ρ1 = .ct ρ2) ∧ I (k + i + 1) ρ2) → ∃ ρ', mLoop tg body ds ρ = .nx ρ' ∧ I (k + ds.length) ρ'
  | [], ρ, k, h0, _ => ⟨ρ, rfl, h0⟩
  | d :: ds, ρ, k, h0, hs => by
    obtain ⟨ρ1, ρ2, e1, e2, h2⟩ := hs 0 d ρ rfl h0
    obtain ⟨ρ', e3, h3⟩ := loop_nx I (ds := ds) (ρ := ρ2) (k := k + 1) h2 fun i d' ρ' hi hI => by
      have := hs (i + 1) d' ρ' (by simpa using hi) (by rw [show k + (i + 1) = k + 1 + i by omega]; exact hI)
      rw [show k + (i + 1) = k + 1 + i by omega] at this
      exact this
    refine ⟨ρ', ?_, by rw [List.length_cons, show k + (ds.length + 1) = k + 1 + ds.length by omega]; exact h3⟩
    rw [mLoop, e1]
    dsimp only
    rcases e2 with e2 | e2 <;> rw [e2] <;> exact e3
/-- a loop that may be left -/
theorem loop_or {tg : D → Env → Option Env} {body : Stm} (I : Nat → Env → Prop) (L : Out → Prop) : ∀ {ds : List D} {ρ : Env} {k : Nat}, I k ρ →
    (∀ i d ρ, ds[i]? = some d → I (k + i) ρ → ∃ ρ1, tg d ρ = some ρ1 ∧ ((∃ ρ2, (body ρ1 = .nx ρ2 ∨ body ρ1 = .ct ρ2) ∧ I (k + i + 1) ρ2) ∨ (∃ ρ2, body ρ1 = .bk ρ2 ∧ L (.nx ρ2)) ∨ (∃ d' ρ2, body ρ1 = .rt d' ρ2 ∧ L (.rt d' ρ2)))) →
    (∃ ρ', mLoop tg body ds ρ = .nx ρ' ∧ I (k + ds.length) ρ') ∨ L (mLoop tg body ds ρ)
  | [], ρ, k, h0, _ => .inl ⟨ρ, rfl, h0⟩
  | d :: ds, ρ, k, h0, hs => by
    obtain ⟨ρ1, e1, h⟩ := hs 0 d ρ rfl h0
    rcases h with ⟨ρ2, e2, h2⟩ | ⟨ρ2, e2, h2⟩ | ⟨d', ρ2, e2, h2⟩
    · have := loop_or I L (ds := ds) (ρ := ρ2) (k := k + 1) h2 fun i d' ρ' hi hI => by
        have := hs (i + 1) d' ρ' (by simpa using hi) (by rw [show k + (i + 1) = k + 1 + i by omega]; exact hI)
        rw [show k + (i + 1) = k + 1 + i by omega] at this
        exact this
      have em : mLoop tg body (d :: ds) ρ = mLoop tg body ds ρ2 := by
        rw [mLoop, e1]
        dsimp only
        rcases e2 with e2 | e2 <;> rw [e2]
      rw [em, List.length_cons, show k + (ds.length + 1) = k + 1 + ds.length by omega]
      exact this
    · refine .inr ?_
      rw [mLoop, e1]
      dsimp only
      rw [e2]
      exact h2
    · refine .inr ?_
      rw [mLoop, e1]
      dsimp only
      rw [e2]
      exact h2
end Y

namespace Y
open PySem PySem.Spec PyProof.Rows L2
/-! ### sorted sets of ints -/
def insU (k : Int) : List Int → List Int
  | [] => [k]
  | x :: xs => if k < x then k :: x :: xs else if k = x then x :: xs else x :: insU k xs
def sortU : List Int → List Int
  | [] => []
  | x :: xs => insU x (sortU xs)
theorem insU_mem {k z : Int} : ∀ {xs : List Int}, z ∈ insU k xs ↔ z = k ∨ z ∈ xs
  | [] => by simp [insU]
  | x :: xs => by
    unfold insU
    split
    · simp
    · split
      · rename_i h
        subst h
        simp
      · rw [List.mem_cons, insU_mem, List.mem_cons]
        exact ⟨fun h => h.elim (fun a => .inr (.inl a)) fun a => a.elim .inl fun b => .inr (.inr b), fun h => h.elim (fun a => .inr (.inl a)) fun a => a.elim .inl fun b => .inr (.inr b)⟩
theorem sortU_mem {z : Int} : ∀ {xs : List Int}, z ∈ sortU xs ↔ z ∈ xs
  | [] => Iff.rfl
  | x :: xs => by rw [sortU, insU_mem, sortU_mem, List.mem_cons]
theorem insU_asc {k : Int} : ∀ {xs : List Int}, xs.Pairwise (· < ·) → (insU k xs).Pairwise (· < ·)
  | [], _ => List.pairwise_singleton _ _
  | x :: xs, h => by
    obtain ⟨h1, h2⟩ := List.pairwise_cons.mp h
    unfold insU
    split
    · rename_i hk
      refine List.pairwise_cons.mpr ⟨fun z hz => ?_, h⟩
      rcases List.mem_cons.mp hz with e | e
      · omega
      · have := h1 z e
        omega
    · split
      · exact h
      · refine List.pairwise_cons.mpr ⟨fun z hz => ?_, insU_asc h2⟩
        rcases insU_mem.mp hz with e | e
        · omega
        · exact h1 z e
theorem sortU_asc : ∀ {xs : List Int}, (sortU xs).Pairwise (· < ·)
  | [] => List.Pairwise.nil
  | _ :: _ => insU_asc sortU_asc
theorem up_ext : ∀ {xs ys : List Int}, xs.Pairwise (· < ·) → ys.Pairwise (· < ·) → (∀ z, z ∈ xs ↔ z ∈ ys) → xs = ys
  | [], [], _, _, _ => rfl
  | [], y :: ys, _, _, h => absurd ((h y).mpr List.mem_cons_self) (by simp)
  | x :: xs, [], _, _, h => absurd ((h x).mp List.mem_cons_self) (by simp)
  | x :: xs, y :: ys, hx, hy, h => by
    obtain ⟨h1, h2⟩ := List.pairwise_cons.mp hx
    obtain ⟨h3, h4⟩ := List.pairwise_cons.mp hy
    have e : x = y := by
      rcases List.mem_cons.mp ((h x).mp List.mem_cons_self) with a | a
      · exact a
      · rcases List.mem_cons.mp ((h y).mpr List.mem_cons_self) with b | b
        · exact b.symm
        · have := h1 y b
          have := h3 x a
          omega
    subst e
    have t := up_ext h2 h4 fun z => by
      constructor
      · intro hz
        rcases List.mem_cons.mp ((h z).mp (List.mem_cons_of_mem _ hz)) with a | a
        · have := h1 z hz
          omega
        · exact a
      · intro hz
        rcases List.mem_cons.mp ((h z).mpr (List.mem_cons_of_mem _ hz)) with a | a
        · have := h3 z hz
          omega
        · exact a
    rw [t]
section
variable {K : PySem.W.Frag} {ct : CT} {ms : List Nat} {W : WX} {H0 R R' H H' : Hp} {vp : Nat → V} {ρ : Env} {σ : L2.St} {w : World}
/-- what stood by is let go -/
theorem Ok.letgo {p : Addr} {o : HO} (ok : Ok K ct (upd H0 p o) ms vp ρ σ R H) (h0 : H0 p = none) : Ok K ct H0 ms vp ρ σ R H := by
  obtain ⟨s, k, iv, l, pi, F, f1, f2, f3⟩ := ok
  refine ⟨s, fun b u q => k _ _ (by rw [upd_ne (ne_of_none q h0)]; exact q), iv, l, pi, F, f1, f2, fun i b h => ?_⟩
  obtain ⟨x, y, z⟩ := f3 i b h
  refine ⟨x, y, ?_⟩
  by_cases e : b = p
  · rw [e, upd_same] at z
    cases z
  · rw [upd_ne e] at z
    exact z
/-- the ints that a set comprehension meets -/
def scGo (step : D → Env → Option (Option D × Env)) (vs : List Nat) : List D → List Int → Env → Option (List Int × Env)
  | [], acc, ρ => some (acc, ρ)
  | d :: ds, acc, ρ => match step d ρ with
    | none => none
    | some (some (.int k), ρ1) => if (sortU (acc ++ [k])).length < 1000 then scGo step vs ds (acc ++ [k]) (wipeE ρ1 vs) else none
    | some (some _, _) => none
    | some (none, ρ1) => scGo step vs ds acc (wipeE ρ1 vs)
def mSortC (it : M (List D)) (tg : D → Env → Option Env) (test : M Bool) (elt : M D) (vs : List Nat) : M D := mB it fun ds ρ => match scGo (lcStep tg test elt vs) vs ds [] (wipeE ρ vs) with
  | some (acc, ρ1) => .ok (.ols ((sortU acc).map D.int)) ρ1
  | none => .st
theorem sim_sortC {wi : TI} {g : TG} {tt : TT} {te : TE} {vs : List Nat} {it : M (List D)} {tg : D → Env → Option Env} {test : M Bool} {elt : M D} {sl : List Nat} (hi : SimI K ct ms vp W wi it) (hg : SimG K ct ms vp g tg sl) (hs : ∀ i ∈ sl, i ∈ vs) (hv : ∀ v ∈ vs, v ∉ ms)
    (ht : SimT K ct ms vp WNo tt test) (he : SimF K ct ms vp WNo te elt) : SimE K ct ms vp W (tCB (rSortedSetW w) (tCons (tScI w wi g tt te vs) tNil)) (mSortC it tg test elt vs) := fun H0 ρ σ R H ok Q q => by
  refine hi H0 ρ σ R H ok _ (Po.mono (Po.bind q) fun ds ρ1 q J R1 H1 g1 ok1 it P hP => ?_)
  have h0 : H0 P = none := ok1.keep.free hP
  have r0 : R1 P = none := ok1.same.free hP
  have okw : Ok K ct (upd H0 P (SetO w P (fun _ => false) 0)) ms vp (wipeE ρ1 vs) σ R1 (upd H1 P (SetO w P (fun _ => false) 0)) := (ok1.guard hP).wipe hv rfl
  refine ⟨fun i m H => m = ds.length - i ∧ i ≤ ds.length ∧ ∃ ρ R2 S n acc, Gr H0 R1 R2 ∧ R2 P = none ∧ (∀ j, S j = true ↔ j ∈ acc) ∧ n = (sortU acc).length ∧ n ≤ 999 ∧ Ok K ct (upd H0 P (SetO w P S n)) ms vp ρ σ R2 H ∧
      Po K ct ms vp W H0 σ R (fun d ρ' => ∀ v R' H', Gr H0 R R' → Ok K ct H0 ms vp (ρ' ++ [some d]) (σ ++ [some v]) R' H' → ρ'.length = σ.length → Q v H')
        (match scGo (lcStep tg test elt vs) vs (ds.drop i) acc ρ with | some (acc, ρ1) => .ok (.ols ((sortU acc).map D.int)) ρ1 | none => .st),
    ⟨ds.length, by omega, Nat.zero_le _, _, R1, fun _ => false, 0, [], Gr.refl _ _, r0, fun j => by simp, rfl, by simp, okw, q⟩, ?_⟩
  rintro i m H2 ⟨rfl, hle, ρ2, R2, S, n, acc, g2, r2, sa, na, nl, ok2, q2⟩
  obtain ⟨yes, no⟩ := it R2 H2 g2.1 ok2.same i
  by_cases hlt : i < ds.length
  · obtain ⟨go, yl⟩ := yes ds[i] (List.getElem?_eq_getElem hlt)
    refine .inr ⟨go, fun H3 => ∃ ρ R2 S n acc, Gr H0 R1 R2 ∧ R2 P = none ∧ (∀ j, S j = true ↔ j ∈ acc) ∧ n = (sortU acc).length ∧ n ≤ 999 ∧ Ok K ct (upd H0 P (SetO w P S n)) ms vp ρ σ R2 H3 ∧
      Po K ct ms vp W H0 σ R (fun d ρ' => ∀ v R' H', Gr H0 R R' → Ok K ct H0 ms vp (ρ' ++ [some d]) (σ ++ [some v]) R' H' → ρ'.length = σ.length → Q v H')
        (match scGo (lcStep tg test elt vs) vs (ds.drop (i + 1)) acc ρ with | some (acc, ρ1) => .ok (.ols ((sortU acc).map D.int)) ρ1 | none => .st),
      fun H3 w => ⟨ds.length - (i + 1), by omega, rfl, hlt, w⟩, fun x H3 y => ?_⟩
    obtain ⟨R3, ex, rx⟩ := yl x H3 y
    have ok3 := (ok2.ext ex).wipe (σ' := L2.wipe σ vs) hv (wipe_wipe σ vs vs fun _ h => h)
    have g3 : Gr (upd H0 P (SetO w P S n)) R2 R3 := ok2.gr ex
    rw [List.drop_eq_getElem_cons hlt, scGo] at q2
    cases e : lcStep tg test elt vs ds[i] ρ2 with
    | none => rw [e] at q2; exact q2.elim
    | some zr =>
      obtain ⟨z, ρ6⟩ := zr
      rw [e] at q2
      try dsimp only at q2
      obtain ⟨ρ4, e4, hz⟩ := lcStep_some e
      refine hg _ _ _ R3 H3 x ds[i] ok3 rx _ ρ4 e4 fun σ4 ok4 w4 => ?_
      have w4' : L2.wipe σ4 vs = L2.wipe σ vs := (w4 vs hs).trans (wipe_wipe σ vs vs fun _ h => h)
      refine ⟨w4', ht _ ρ4 σ4 R3 H3 ok4 _ ?_⟩
      rcases hz with ⟨e1, ez⟩ | ⟨y, ρ5, e1, e2, ez⟩
      · rw [e1]
        rw [ez] at q2
        intro R5 H5 g5 ok5
        have gg := (g3.trans g5)
        exact ⟨wipeE ρ6 vs, R5, S, n, acc, g2.trans gg.unguard, gg.still r2, sa, na, nl, ok5.wipe (σ' := σ) hv w4'.symm, q2⟩
      · rw [e1]
        rw [ez] at q2
        intro R5 H5 g5 ok5
        refine he _ ρ5 σ4 R5 H5 ok5 _ ?_
        rw [e2]
        intro v R6 H6 g6 ok6 r6
        cases y with
        | int k =>
          dsimp only at q2
          by_cases hacc : (sortU (acc ++ [k])).length < 1000
          · rw [if_pos hacc] at q2
            have gg := ((g3.trans g5).trans g6)
            have rP := gg.still r2
            have ek := r6.int_inv
            have sa' : ∀ j, (S j || decide (j = k)) = true ↔ j ∈ acc ++ [k] := fun j => by
              rw [Bool.or_eq_true, sa, decide_eq_true_iff, List.mem_append, List.mem_singleton]
            have cnt : (if S k = true then n else n + 1) = (sortU (acc ++ [k])).length := by
              by_cases hk : S k = true
              · rw [if_pos hk, na]
                have : sortU (acc ++ [k]) = sortU acc := up_ext sortU_asc sortU_asc fun z => by
                  rw [sortU_mem, sortU_mem, List.mem_append, List.mem_singleton]
                  exact ⟨fun h => h.elim id fun h => h ▸ (sa k).mp hk, .inl⟩
                rw [this]
              · rw [if_neg hk, na]
                have hk2 : k ∉ sortU acc := fun h => hk ((sa k).mpr (sortU_mem.mp h))
                have : sortU (acc ++ [k]) = insU k (sortU acc) := up_ext sortU_asc (insU_asc sortU_asc) fun z => by
                  rw [sortU_mem, insU_mem, sortU_mem, List.mem_append, List.mem_singleton]
                  exact or_comm
                rw [this]
                have il : ∀ {xs : List Int}, k ∉ xs → (insU k xs).length = xs.length + 1 := fun {xs} => by
                  induction xs with
                  | nil => intro _; rfl
                  | cons x xs ih =>
                    intro h
                    unfold insU
                    split
                    · rfl
                    · split
                      · rename_i h2
                        exact absurd (h2 ▸ List.mem_cons_self) h
                      · rw [List.length_cons, ih fun h3 => h (List.mem_cons_of_mem _ h3), List.length_cons]
                exact (il hk2).symm
            refine ⟨k, S, n, ek, ok6.keep _ _ upd_same, Nat.lt_of_le_of_lt (show n + 1 ≤ 1000 by omega) (by decide), wipeE ρ6 vs, R6, _, _, acc ++ [k], g2.trans gg.unguard, rP, sa', cnt, by rw [cnt]; omega, (ok6.reguard rP).wipe (σ' := σ) hv w4'.symm, q2⟩
          · rw [if_neg hacc] at q2
            exact q2.elim
        | _ => exact q2.elim
  · rw [List.drop_eq_nil_of_le (by omega), scGo] at q2
    refine .inl ⟨no (by omega), ⟨P, S, n, rfl, ok2.keep _ _ upd_same, by omega, fun ns p asc mem len hp => ?_⟩⟩
    have en : ns = sortU acc := up_ext asc sortU_asc fun z => by rw [mem, sa, sortU_mem]
    subst en
    exact q2 (.ref p) R2 _ (g1.trans g2) ((ok2.letgo h0).list hp (Reps.ints (sortU acc))) ok2.len.symm
/-! a set of a list -/
def sortI (ns : List Int) : M D := if ns.length < 1000 then mP (.ols ((sortU ns).map D.int)) else fun _ => .st
def lstD : D → Option (List D)
  | .lst ds => some ds
  | _ => none
def mSortS (f : M D) : M D := mB f fun d => mB (mO ((lstD d).bind fun ds => ds.mapM asI)) sortI
theorem sim_sortS {te : TE} {f : M D} (hf : SimF K ct ms vp W te f) : SimE K ct ms vp W (tCB (rSortedSetW w) (tCons (tCB (rSetOfI K w) (tCons te tNil)) tNil)) (mSortS f) := fun H0 ρ σ R H ok Q q => by
  refine hf H0 ρ σ R H ok _ (Po.mono (Po.bind q) fun d ρ1 q v R1 H1 g1 ok1 r1 => ?_)
  obtain ⟨ns, e, q2⟩ := Po.opt (Po.bind q)
  obtain ⟨ds, e1, e2⟩ := Option.bind_eq_some_iff.mp e
  have ed : d = .lst ds := by
    cases d <;> simp only [lstD] at e1 <;> cases e1
    rfl
  subst ed
  obtain ⟨a, us, rfl, ha, t⟩ := r1.lst_inv
  have en := ints_of e2
  subst en
  have eu := t.ints_inv
  subst eu
  unfold sortI at q2
  by_cases hl : ns.length < 1000
  · rw [if_pos hl] at q2
    refine ⟨a, ns, rfl, sql0 (ok1.same _ _ ha), by omega, fun p c hp hc => ?_⟩
    have ex := Ext.heap (o := SetO w p (fun j => decide (j ∈ ns)) c) ok1.same hp
    have ok2 := ok1.ext ex
    refine ⟨p, _, c, rfl, upd_same, by omega, fun ms p2 asc mem len hp2 => ?_⟩
    have em : ms = sortU ns := up_ext asc sortU_asc fun z => by rw [mem, decide_eq_true_iff, sortU_mem]
    subst em
    exact q2 (.ref p2) R1 _ g1 (ok2.list hp2 (Reps.ints (sortU ns))) ok2.len.symm
  · rw [if_neg hl] at q2
    exact q2.elim
/-! the ascending list of a list of ints -/
def ascI (ns : List Int) : List Int := ns.mergeSort fun a b => decide (a ≤ b)
theorem ascI_perm (ns : List Int) : (ascI ns).Perm ns := List.mergeSort_perm _ _
theorem ascI_asc (ns : List Int) : (ascI ns).Pairwise (· ≤ ·) := by
  have := List.pairwise_mergeSort (le := fun (a b : Int) => decide (a ≤ b)) (fun a b c h1 h2 => by simp at *; omega) (fun a b => by simp; omega) ns
  exact this.imp fun h => by simpa using h
theorem ascI_only {ns ms : List Int} (p : ms.Perm ns) (h : ms.Pairwise (· ≤ ·)) : ms = ascI ns :=
  List.Perm.eq_of_pairwise (le := (· ≤ ·)) (fun a b _ _ h1 h2 => by omega) h (ascI_asc ns) (p.trans (ascI_perm ns).symm)
def oAsc : List D → Option (List D)
  | [.lst ds] => (ds.mapM asI).map fun ns => (ascI ns).map D.int
  | _ => none
theorem so_asc {b : CTB} : CbL K b (rSortedI K) oAsc := fun R H vs ds s r Q q => by
  match ds, q, r with
  | [.lst es], q, r =>
    obtain ⟨v, rfl, r1⟩ := one r
    obtain ⟨a, us, rfl, h, t⟩ := r1.lst_inv
    simp only [oAsc] at q
    cases e : es.mapM asI with
    | none => rw [e] at q; exact q.elim
    | some ns =>
      rw [e] at q
      have e2 := ints_of e
      subst e2
      have eu := t.ints_inv
      subst eu
      refine ⟨a, ns, rfl, .inl (.inl (s _ _ h)), fun ms p hp hs hn => ?_⟩
      have em := ascI_only hp hs
      subst em
      exact q p _ hn (.ints (ascI ns))
/-! a star among the items -/
def mStar (f : M D) (g : M (List D)) : M (List D) := mB f fun d => mB (mO (seqD d)) fun xs => mB g fun ys => mP (xs ++ ys)
theorem sim_star {te : TE} {t : TA} {f : M D} {g : M (List D)} (hf : SimF K ct ms vp W te f) (hg : SimA K ct ms vp W t g) : SimA K ct ms vp W (StX.tStar K te t) (mStar f g) := fun H0 ρ σ R H ok Q q =>
  hf H0 ρ σ R H ok _ (Po.mono (Po.bind q) fun d ρ1 q v R1 H1 g1 ok1 r1 => by
    obtain ⟨xs, e, q2⟩ := Po.opt (Po.bind q)
    obtain ⟨a, vs, rfl, hx, rx⟩ := seqD_some e r1
    refine ⟨a, vs, rfl, (hx.imp (SqL.mono ok1.same) (SqT.mono ok1.same)).symm, ?_⟩
    exact hg H0 ρ1 σ R1 H1 ok1 _ (Po.gr g1 (Po.bind q2) fun ys ρ2 q3 ws R2 H2 g2 ok2 r2 => q3 (vs ++ ws) R2 H2 (g1.trans g2) ok2 ((rx.mono g2.1).app r2)))
@[simp] theorem a_mStar {ρ : Env} {f : M D} {g : M (List D)} : mStar f g ρ = bK (f ρ) fun d => mB (mO (seqD d)) fun xs => mB g fun ys => mP (xs ++ ys) := a_mB
theorem pa_starA {X : Cx} {K0 : PySem.W.Frag} {e : Expr} {es : List Expr} {te : TE} {t : TA} {p : Pos} (hK : X.K = K0) (he : PE X e te) (hr : PA X es t) (hs : starEach (.Starred e p :: es) X.env = (true, eval e X.env) :: starEach es X.env := by rfl) : PA X (.Starred e p :: es) (StX.tStar K0 te t) := by
  subst hK
  exact StX.pa_star he hr hs
/-! try with several clauses -/
def pickH : List (Nat × (Nat → Option Bool) × (Nat → Option D → Stm)) → Nat → Option D → Stm
  | [], c, x, ρ1 => .ex c x ρ1
  | (i, fits, h) :: hs, c, x, ρ1 => match fits c with
    | some true => if i < ρ1.length then offO i (h c x (ρ1.set i none)) else .st
    | some false => pickH hs c x ρ1
    | none => .st
def mTryN (body : Stm) (hs : List (Nat × (Nat → Option Bool) × (Nat → Option D → Stm))) : Stm := fun ρ => match body ρ with
  | .ex c x ρ1 => pickH hs c x ρ1
  | .nx ρ1 => .nx ρ1 | .rt d ρ1 => .rt d ρ1 | .bk ρ1 => .bk ρ1 | .ct ρ1 => .ct ρ1 | .st => .st
inductive TryOk (K : PySem.W.Frag) (ct : CT) (ms : List Nat) (vp : Nat → V) (W : WX) : List Clause → List (Nat × (Nat → Option Bool) × (Nat → Option D → Stm)) → Prop where
  | nil : TryOk K ct ms vp W [] []
  | cons {cl : Value} {i : Nat} {ts : Addr → Value → Option Addr → TS} {fits : Nat → Option Bool} {h : Nat → Option D → Stm} {qs : List Clause} {hs : List (Nat × (Nat → Option Bool) × (Nat → Option D → Stm))} (hi : i ∉ ms)
      (hf : ∀ c r, fits c = some r → PySem.W.exmOne K (.ref (ct.b.err c)) cl = some r)
      (hh : ∀ a od c x, fits c = some true → SimS K (ct.with K c x od) (i :: ms) (pinX vp i a) W (ts a (.ref (ct.b.err c)) od) (h c x)) (r : TryOk K ct ms vp W qs hs) : TryOk K ct ms vp W (⟨cl, i, ts⟩ :: qs) ((i, fits, h) :: hs)
theorem sim_tryN {tb : WX → TS} {body : Stm} {qs : List Clause} {hs : List (Nat × (Nat → Option Bool) × (Nat → Option D → Stm))} (hT : TryOk K ct ms vp W qs hs) (hb : ∀ W', SimS K ct ms vp W' (tb W') body) :
    SimS K ct ms vp W (fun D σ H => tb (wNamed K W D qs) D σ H) (mTryN body hs) := fun H0 ρ σ R H ok D' q => by
  refine hb _ H0 ρ σ R H ok D' ?_
  unfold mTryN at q
  cases e : body ρ with
  | nx ρ1 => rw [e] at q; exact q
  | rt d ρ1 => rw [e] at q; exact q
  | bk ρ1 => rw [e] at q; exact q
  | ct ρ1 => rw [e] at q; exact q
  | st => rw [e] at q; exact q
  | ex c x ρ1 =>
    rw [e] at q
    dsimp only at q
    intro od σ1 R1 H1 g1 ok1 xo
    clear e hb
    induction hT with
    | nil => exact q od σ1 R1 H1 g1 ok1 xo
    | @cons cl i ts fits h qs hs hi hf hh r0 ih =>
      have back : ∀ {c x od ρ3 a} {σ3 : L2.St} {R3 H3 : Hp}, Ok K (ct.with K c x od) H0 (i :: ms) (pinX vp i a) ρ3 σ3 R3 H3 → Ok K ct H0 ms vp ρ3 σ3 R3 H3 := fun {c x od ρ3 a σ3 R3 H3} o => by
        have := o.sel (ms' := ms) (vp' := vp) (ρ' := ρ3) (σ' := σ3) id o.len (fun j hj => by
          have p := o.pins j (List.mem_cons_of_mem _ hj)
          unfold pinX at p
          rw [if_neg (fun z => hi (by rw [← z]; exact hj))] at p
          exact p) (fun k d h => ⟨h, rfl⟩) fun k k' _ _ e => e
        exact this.cast rfl o.inv.1
      rw [pickH] at q
      cases ef : fits c with
      | none => rw [ef] at q; exact q.elim
      | some r =>
        rw [ef] at q
        try dsimp only at q
        refine ⟨r, hf c r ef, fun er a ha => ?_, fun er => ?_⟩
        · subst er
          by_cases hlt : i < ρ1.length
          · have ok2 : Ok K (ct.with K c x od) H0 (i :: ms) (pinX vp i a) (ρ1.set i none) (σ1.set i (some (.ref a))) R1 H1 := by
              have o := ((ok1.unset hi (some (.ref a))).cast (ct' := ct.with K c x od) rfl ⟨ok1.inv, xo⟩)
              refine o.sel id o.len (fun j hj => ?_) (fun k d h => ⟨h, rfl⟩) fun k k' _ _ e => e
              unfold pinX
              by_cases ej : j = i
              · rw [if_pos ej, ej, List.getElem?_set_self (by rw [ok1.len]; exact hlt)]
              · rw [if_neg ej]
                refine o.pins j ?_
                cases hj with
                | head => exact absurd rfl ej
                | tail _ hj => exact hj
            refine hh a od c x ef H0 _ _ R1 H1 ok2 _ ?_
            have q2 := PoS.gr g1 q
            rw [if_pos hlt] at q2
            cases e2 : h c x (ρ1.set i none) with
            | nx ρ3 => rw [e2] at q2; exact fun σ3 R3 H3 g3 ok3 => q2 _ R3 H3 g3 ((back ok3).unset hi none)
            | bk ρ3 => rw [e2] at q2; exact fun σ3 R3 H3 g3 ok3 => q2 _ R3 H3 g3 ((back ok3).unset hi none)
            | ct ρ3 => rw [e2] at q2; exact fun σ3 R3 H3 g3 ok3 => q2 _ R3 H3 g3 ((back ok3).unset hi none)
            | rt d ρ3 =>
              rw [e2] at q2
              intro v σ3 R3 H3 g3 ok3 l
              refine q2 v σ3 R3 H3 g3 ?_ l
              have l3 : ρ3.length = σ3.length := l
              have := ok3.sel (ms' := ms) (vp' := vp) (ρ' := ρ3 ++ [some d]) (σ' := σ3 ++ [some v]) id ok3.len (fun j hj => by
                have p := ok3.pins j (List.mem_cons_of_mem _ hj)
                unfold pinX at p
                rw [if_neg (fun z => hi (by rw [← z]; exact hj))] at p
                exact p) (fun k d h => ⟨h, rfl⟩) fun k k' _ _ e => e
              exact this.cast rfl ok3.inv.1
            | ex c' x' ρ3 => rw [e2] at q2; exact fun od' σ3 R3 H3 g3 ok3 xo' => q2 od' σ3 R3 H3 g3 (back ok3) xo'
            | st => rw [e2] at q2; exact q2
          · rw [if_neg hlt] at q; exact q.elim
        · subst er
          exact ih q
section
variable {ρ : Env}
def hK : Option (List Int × Env) → Res D
  | some (acc, ρ) => .ok (.ols ((sortU acc).map D.int)) ρ
  | none => .st
@[simp] theorem hK_some {acc : List Int} : hK (some (acc, ρ)) = .ok (.ols ((sortU acc).map D.int)) ρ := (rfl)
@[simp] theorem a_mSortC {it : M (List D)} {tg : D → Env → Option Env} {test : M Bool} {elt : M D} {vs : List Nat} : mSortC it tg test elt vs ρ = bK (it ρ) fun ds ρ => hK (scGo (lcStep tg test elt vs) vs ds [] (wipeE ρ vs)) := by
  rw [mSortC, a_mB]
  congr 1
@[simp] theorem a_mSortS {f : M D} : mSortS f ρ = bK (f ρ) fun d => mB (mO ((lstD d).bind fun ds => ds.mapM asI)) sortI := a_mB
@[simp] theorem a_sortI {ns : List Int} : sortI ns ρ = if ns.length < 1000 then .ok (.ols ((sortU ns).map D.int)) ρ else .st := by
  unfold sortI
  split <;> rfl
@[simp] theorem oAsc_lst {ds : List D} : oAsc [.lst ds] = (ds.mapM asI).map fun ns => (ascI ns).map D.int := (rfl)
@[simp] theorem lstD_lst {ds : List D} : lstD (.lst ds) = some ds := (rfl)
end
end
end Y

namespace Y
open PySem PySem.Spec PyProof.Rows L2
section
variable {K : PySem.W.Frag} {ct : CT} {ms : List Nat} {W : WX} {H0 R R' H H' : Hp} {vp : Nat → V} {ρ : Env} {σ : L2.St}
/-! `in` where the right side is a list in a slot -/
def inF (neg : Bool) (x : D) (ds : List D) : Option D := if (flD x && ds.all flD) = true then some (.bl (if neg = true then !inD x ds else inD x ds)) else none
def mInV (neg : Bool) (f : M D) (i : Nat) : M D := mB f fun x => mB (mGet fun ρ => sqOf ρ[i]?) fun ds => mO (inF neg x ds)
theorem flD_isO {d : D} (h : flD d = true) : d.isO = false := by cases d <;> first | rfl | cases h
theorem sim_inV {neg : Bool} {i : Nat} {ta : TE} {f : M D} (hf : SimF K ct ms vp W ta f) : SimF K ct ms vp W (tOp (rIn K neg) ta (tVar i)) (mInV neg f i) := fun H0 ρ σ R H ok Q q =>
  hf H0 ρ σ R H ok _ (Po.mono (Po.bind q) fun d ρ1 q w R1 H1 g1 ok1 r1 => by
    obtain ⟨ds, e, q⟩ := Po.get (Po.bind q)
    obtain ⟨a, vs, x, y, l, rd⟩ := ok1.sq e
    obtain ⟨d3, e4, q⟩ := Po.opt q
    unfold inF at e4
    split at e4
    · rename_i hc
      cases e4
      obtain ⟨f1, f2⟩ := Bool.and_eq_true_iff.mp hc
      have rs : Reps K ct.b R1 vs ds := ⟨l, fun k v d p q => rd k v d p q (flD_isO (List.all_eq_true.mp f2 d (List.mem_of_getElem? q)))⟩
      obtain ⟨h1, h2⟩ := inD_V r1 f1 rs f2
      refine ⟨.ref a, x, a, vs, rfl, y, flD_V r1 f1, h1, ?_⟩
      refine q _ R1 H1 g1 ok1 ?_
      rw [h2]
      cases neg <;> exact .bl _
    · cases e4)
@[simp] theorem a_mInV {neg : Bool} {i : Nat} {f : M D} : mInV neg f i ρ = bK (f ρ) fun x => mB (mGet fun ρ => sqOf ρ[i]?) fun ds => mO (inF neg x ds) := a_mB
end
@[simp] theorem inF_of {neg : Bool} {x : D} {ds : List D} : inF neg x ds = if (flD x && ds.all flD) = true then some (.bl (if neg = true then !inD x ds else inD x ds)) else none := (rfl)
end Y

namespace Y
open PySem PySem.Spec PyProof.Rows L2
section
variable {K : PySem.W.Frag} {ct : CT} {ms : List Nat} {W : WX} {H0 R R' H H' : Hp} {vp : Nat → V} {ρ : Env} {σ : L2.St}
/-! ### what is new and one's own comes at the end -/
theorem Ok.add (ok : Ok K ct H0 ms vp ρ σ R H) (ex : Ext R H R' H') {v : V} {d : D} {G : Addr → Prop} (o : Own K ct.b R' H' G v d) (fr : ∀ b, G b → H b = none ∧ R' b = none ∧ H' b ≠ none) :
    Ok K ct H0 ms vp (ρ ++ [some d]) (σ ++ [some v]) R' H' := by
  have ok2 := ok.ext ex
  have h0 : ∀ b, G b → H0 b = none := fun b g => ok.keep.free (fr b g).1
  obtain ⟨_, _, _, _, _, F, f1, f2, f3⟩ := ok
  obtain ⟨s, k, iv, l, pi, _⟩ := ok2
  have nF : ∀ i b, F i b → ¬ G b := fun i b x y => (f3 i b x).2.1 (fr b y).1
  refine ⟨s, k, iv, by simp [l], fun i hi => ?_, fun i b => (i < ρ.length ∧ F i b) ∨ (i = ρ.length ∧ G b), fun i e h => ?_, fun i j b ne x y => ?_, fun i b h => ?_⟩
  · have q := pi i hi
    rw [List.getElem?_append_left (List.getElem?_eq_some_iff.mp q).1]
    exact q
  · by_cases z : i < ρ.length
    · rw [List.getElem?_append_left z] at h
      obtain ⟨u, a, w⟩ := f1 i e h
      refine ⟨u, by rw [List.getElem?_append_left (by rw [l]; exact z)]; exact a, ?_⟩
      exact ((w.monoR ex.r).monoH fun c o g q => ex.h c o q).monoF fun c g => .inl ⟨z, g⟩
    · have z2 : i = ρ.length := by
        have := (List.getElem?_eq_some_iff.mp h).1
        simp at this
        omega
      subst z2
      cases (show d = e by simpa using h)
      exact ⟨v, by rw [← l]; simp, o.monoF fun c g => .inr ⟨rfl, g⟩⟩
  · rcases x with x | x <;> rcases y with y | y
    · exact f2 i j b ne x.2 y.2
    · exact nF i b x.2 y.2
    · exact nF j b y.2 x.2
    · exact ne (x.1.trans y.1.symm)
  · rcases h with h | h
    · obtain ⟨a, b', c⟩ := f3 i b h.2
      refine ⟨?_, fun z => b' (ex.h.free z), c⟩
      cases q : R' b with
      | none => rfl
      | some o =>
        rcases ex.n b (by rw [q]; exact Option.some_ne_none o) with z | z
        · exact absurd a z
        · exact absurd z b'
    · exact ⟨(fr b h.2).2.1, (fr b h.2).2.2, h0 b h.2⟩
/-! ### a dict of one's own in a slot -/
def odcOf : Option (Option D) → Option (List D × List D)
  | some (some (.odc 0 ks ds)) => some (ks, ds)
  | _ => none
theorem odcOf_some {x : Option (Option D)} {ks ds : List D} (h : odcOf x = some (ks, ds)) : x = some (some (.odc 0 ks ds)) := by
  unfold odcOf at h
  split at h <;> cases h
  rfl
def keyD : D → Option (List Bool)
  | .tup ds => ds.mapM asB
  | _ => none
theorem keyD_some {R : Hp} {v : V} {d : D} {k : List Bool} (h : keyD d = some k) (r : Rep K ct.b R v d) : ∃ b, v = .ref b ∧ d = .tup (k.map D.bl) ∧ SqT K R b (k.map V.bl) := by
  cases d <;> simp only [keyD] at h <;> try (cases h; done)
  rename_i ds
  have e : ∀ {ds : List D} {k : List Bool}, ds.mapM asB = some k → ds = k.map D.bl := by
    intro ds
    induction ds with
    | nil => intro k h; cases h; rfl
    | cons d ds ih =>
      intro k h
      rw [List.mapM_cons] at h
      obtain ⟨b, h1, h2⟩ := Option.bind_eq_some_iff.mp h
      obtain ⟨bs, h3, h4⟩ := Option.bind_eq_some_iff.mp h2
      cases h4
      rw [asB_some h1, ih h3]
      rfl
  have e1 := e h
  subst e1
  obtain ⟨a, vs, rfl, q, t⟩ := r.tup_inv
  refine ⟨a, rfl, rfl, ?_⟩
  have ev : ∀ {k : List Bool} {vs : List V}, Reps K ct.b R vs (k.map D.bl) → vs = k.map V.bl := by
    intro k
    induction k with
    | nil => intro vs t; exact t.nil_inv
    | cons b k ih =>
      intro vs t
      obtain ⟨v, ws, rfl, r1, r2⟩ := Reps.cons_inv t
      rw [r1.bl_inv, ih r2]
      rfl
  rw [← ev t]
  exact q
/-- the keys, told from data -/
def hasD (k : List Bool) (ks : List D) : Bool := ks.any fun d => keyD d == some k
theorem keyD_key (k : List Bool) : keyD (.tup (k.map D.bl)) = some k := by
  show (k.map D.bl).mapM asB = some k
  induction k with
  | nil => rfl
  | cons b k ih =>
    rw [List.map_cons, List.mapM_cons, ih]
    rfl
theorem hasD_B {es : List EntB} {k : List Bool} : hasD k (es.map fun e => D.tup (e.1.map D.bl)) = hasB es k := by
  unfold hasD hasB
  induction es with
  | nil => simp
  | cons e es ih =>
    rw [List.map_cons, List.any_cons, ih, keyD_key]
    by_cases q : e.1 = k
    · simp [q]
    · have q2 : ¬ k = e.1 := fun z => q z.symm
      have q3 : (e.1 == k) = false := beq_eq_false_iff_ne.mpr q
      simp [q2, q3]
theorem Ok.dict (ok : Ok K ct H0 ms vp ρ σ R H) {i : Nat} {ks ds : List D} (h : ρ[i]? = some (some (.odc 0 ks ds))) :
    ∃ a es, σ[i]? = some (some (.ref a)) ∧ H a = some (DicB a es) ∧ (ks = es.map fun e => D.tup (e.1.map D.bl)) ∧ KeysB K R es ∧ Reps K ct.b R (es.map (·.2.2)) ds ∧
      ∀ (k : List Bool) (b : Addr) (v : V) (d : D), SqT K R b (k.map V.bl) → Rep K ct.b R v d → Ok K ct H0 ms vp (ρ.set i (some (.odc 0 (ks ++ [.tup (k.map D.bl)]) (ds ++ [d])))) σ R (upd H a (DicB a (es ++ [(k, b, v)]))) := by
  obtain ⟨s, kp, iv, l, p, F, f1, f2, f3⟩ := ok
  obtain ⟨v, hv, w⟩ := f1 i _ h
  cases w with
  | fz w => cases w
  | @odc _ a es _ _ ha hF hk kb r =>
    refine ⟨a, es, hv, ha, hk, kb, r, fun k b u d hb ru => ?_⟩
    obtain ⟨ra, _, h0a⟩ := f3 i a hF
    refine ⟨fun b o q => ?_, fun b o q => ?_, iv, by simpa using l, p, F, fun j d' q => ?_, f2, fun j b q => ?_⟩
    · rw [upd_ne (ne_of_none q ra)]; exact s b o q
    · rw [upd_ne (ne_of_none q h0a)]; exact kp b o q
    · by_cases z : j = i
      · subst z
        have hj : j < ρ.length := (List.getElem?_eq_some_iff.mp h).1
        rw [List.getElem?_set_self hj] at q
        cases q
        refine ⟨.ref a, hv, .odc upd_same hF (by rw [hk]; simp) (fun e he => ?_) ?_⟩
        · rcases List.mem_append.mp he with he | he
          · exact kb e he
          · rw [List.mem_singleton] at he
            subst he
            exact hb
        · rw [List.map_append]
          exact r.snoc ru
      · rw [List.getElem?_set_ne (Ne.symm z)] at q
        obtain ⟨u, x, y⟩ := f1 j d' q
        refine ⟨u, x, y.monoH fun b o g q' => ?_⟩
        rw [upd_ne fun e => f2 j i b z g (by rw [e]; exact hF)]
        exact q'
    · obtain ⟨x, y, z⟩ := f3 j b q
      refine ⟨x, ?_, z⟩
      by_cases e : b = a
      · rw [e, upd_same]; exact Option.some_ne_none _
      · rw [upd_ne e]; exact y
def mNewD : M D := mP (.odc 0 [] [])
theorem sim_newD : SimE K ct ms vp W tDNewB mNewD := fun H0 ρ σ R H ok Q q p hp => by
  have ex := Ext.heap (o := DicB p []) ok.same hp
  exact q (.ref p) R _ (Gr.refl _ _) (ok.add ex (G := fun b => b = p) (.odc upd_same rfl rfl (fun e he => nomatch he) .nil) fun b hb => by
    rw [hb]
    exact ⟨hp, ok.same.free hp, by rw [upd_same]; exact Option.some_ne_none _⟩) ok.len.symm
def mInD (neg : Bool) (f : M D) (i : Nat) : M D := mB f fun x => mB (mGet fun ρ => odcOf ρ[i]?) fun z => mB (mO (keyD x)) fun k => mP (.bl (if neg = true then !hasD k z.1 else hasD k z.1))
theorem sim_inD {neg : Bool} {i : Nat} {ta : TE} {f : M D} (hf : SimF K ct ms vp W ta f) : SimF K ct ms vp W (tOp (rInB K neg) ta (tVar i)) (mInD neg f i) := fun H0 ρ σ R H ok Q q =>
  hf H0 ρ σ R H ok _ (Po.mono (Po.bind q) fun d ρ1 q w R1 H1 g1 ok1 r1 => by
    obtain ⟨⟨ks, ds⟩, e, q⟩ := Po.get (Po.bind q)
    obtain ⟨a, es, x, y, hk, kb, _⟩ := ok1.dict (odcOf_some e)
    obtain ⟨k, e4, q⟩ := Po.opt (Po.bind q)
    obtain ⟨b, rfl, _, hb⟩ := keyD_some e4 r1
    refine ⟨.ref a, x, b, k, a, es, rfl, SqT.mono ok1.same hb, rfl, y, fun e he => SqT.mono ok1.same (kb e he), ?_⟩
    refine q _ R1 H1 g1 ok1 ?_
    rw [hk, hasD_B]
    exact .bl _)
/-- d[k] = v, k not there -/
def mSetD (i : Nat) (f g : M D) : Stm := mThen f fun x => mThen (mGet fun ρ => odcOf ρ[i]?) fun _ => mThen g fun y => mThen (mGet fun ρ => odcOf ρ[i]?) fun z => mThen (mO (keyD y)) fun k => mThen (mO (if hasD k z.1 = true then none else szok z.1.length)) fun _ ρ => .nx (ρ.set i (some (.odc 0 (z.1 ++ [.tup (k.map D.bl)]) (z.2 ++ [x]))))
theorem sim_setD {i : Nat} {te ti : TE} {f g : M D} (hf : SimF K ct ms vp W te f) (hg : SimF K ct ms vp W ti g) : SimS K ct ms vp W (tAsg te (gSub (tVar i) ti (rSetB K))) (mSetD i f g) := fun H0 ρ σ R H ok D' q =>
  hf H0 ρ σ R H ok _ (Po.mono (PoS.bind q) fun x ρ1 q v R1 H1 g1 ok1 r1 => by
    obtain ⟨⟨ks0, ds0⟩, e0, q⟩ := PoS.get q
    obtain ⟨a, es, x0, y, _⟩ := ok1.dict (odcOf_some e0)
    refine ⟨.ref a, x0, hg H0 ρ1 σ R1 H1 ok1 _ (Po.gr g1 (PoS.bind q) fun j ρ2 q w R2 H2 g2 ok2 r2 => ?_)⟩
    obtain ⟨⟨ks, ds⟩, e1, q⟩ := PoS.get q
    obtain ⟨k, e2, q⟩ := PoS.opt q
    obtain ⟨u, e3, q⟩ := PoS.opt q
    obtain ⟨a1, es1, x1, y1, hk, kb, rr, put⟩ := ok2.dict (odcOf_some e1)
    cases x0.symm.trans x1
    obtain ⟨b, rfl, _, hb⟩ := keyD_some e2 r2
    dsimp only at e3 hk q
    have no : hasD k ks = false := by
      cases z : hasD k ks with
      | false => rfl
      | true => rw [z, if_pos rfl] at e3; cases e3
    rw [no, if_neg Bool.false_ne_true] at e3
    have len : ks.length = es1.length := by rw [hk, List.length_map]
    have no2 : k ∉ es1.map (·.1) := by
      rw [hk, hasD_B] at no
      exact of_decide_eq_false no
    exact ⟨a, b, k, es1, rfl, rfl, SqT.mono ok2.same hb, y1, fun e he => SqT.mono ok2.same (kb e he), no2, by rw [← len]; exact szok_lt e3, q σ R2 _ (g1.trans g2) (put k b v x hb (r1.mono g2.1))⟩)
/-- list(d.items()) -/
def pairD (ks ds : List D) : List D := List.zipWith (fun k d => D.tup [k, d]) ks ds
def mItems (i : Nat) : M D := mB (mGet fun ρ => odcOf ρ[i]?) fun z => mP (.ols (pairD z.1 z.2))
theorem sim_items {i : Nat} : SimE K ct ms vp W (tItemsB (tVar i)) (mItems i) := fun H0 ρ σ R H ok Q q => by
  obtain ⟨⟨ks, ds⟩, e, q⟩ := Po.get (Po.bind q)
  obtain ⟨a, es, x, y, hk, kb, rr, _⟩ := ok.dict (odcOf_some e)
  refine ⟨.ref a, x, a, es, rfl, y, fun H' p ts kp hp hts pn hl len at_ => ?_⟩
  dsimp only at hk q
  classical
  have memE : ∀ t ∈ ts, ∃ (j : Nat) (e : EntB), ts[j]? = some t ∧ es[j]? = some e ∧ H' t = some (.tup [.ref e.2.1, e.2.2]) := fun t ht => by
    obtain ⟨j, hj⟩ := List.getElem?_of_mem ht
    have hjl : j < es.length := by rw [← len]; exact (List.getElem?_eq_some_iff.mp hj).1
    exact ⟨j, es[j], hj, List.getElem?_eq_getElem hjl, at_ j t _ hj (List.getElem?_eq_getElem hjl)⟩
  let R1 : Hp := fun b => if b ∈ ts then H' b else R b
  have r1 : ∀ {b}, b ∉ ts → R1 b = R b := fun h => if_neg h
  have r2 : ∀ {b}, b ∈ ts → R1 b = H' b := fun h => if_pos h
  have sR : Same R R1 := fun b o h => by
    rw [r1 fun z => by rw [ok.same.free (hts b z)] at h; cases h]
    exact h
  have ex : Ext R H R1 H' := by
    refine ⟨sR, fun b o h => ?_, kp, fun b h => ?_⟩
    · by_cases z : b ∈ ts
      · rw [r2 z] at h; exact h
      · rw [r1 z] at h; exact kp _ _ (ok.same _ _ h)
    · by_cases z : b ∈ ts
      · exact .inr (hts b z)
      · rw [r1 z] at h; exact .inl h
  have reps : Reps K ct.b R1 (ts.map V.ref) (pairD ks ds) := by
    have ld : ds.length = es.length := by rw [← rr.1, List.length_map]
    refine ⟨by rw [List.length_map, len, pairD, List.length_zipWith, hk, List.length_map, ld, Nat.min_self], fun j v d h1 h2 => ?_⟩
    rw [List.getElem?_map] at h1
    obtain ⟨t, h3, rfl⟩ := Option.map_eq_some_iff.mp h1
    have ht : t ∈ ts := List.mem_of_getElem? h3
    have hjl : j < es.length := by rw [← len]; exact (List.getElem?_eq_some_iff.mp h3).1
    have he : es[j]? = some es[j] := List.getElem?_eq_getElem hjl
    have hm : es[j] ∈ es := List.getElem_mem hjl
    have at' := at_ j t _ h3 he
    generalize es[j] = en at he hm at'
    have hd : ds[j]? = some ds[j] := List.getElem?_eq_getElem (by omega)
    generalize ds[j]'_ = dv at hd
    have e2 : d = .tup [.tup (en.1.map D.bl), dv] := by
      rw [pairD, List.getElem?_zipWith, hk, List.getElem?_map, he, hd] at h2
      exact (Option.some.inj h2).symm
    subst e2
    have hv : (es.map (·.2.2))[j]? = some en.2.2 := by rw [List.getElem?_map, he]; rfl
    have rk : Rep K ct.b R1 (.ref en.2.1) (.tup (en.1.map D.bl)) := by
      have : ∀ bs : List Bool, Reps K ct.b R1 (bs.map V.bl) (bs.map D.bl) := fun bs => by
        induction bs with
        | nil => exact .nil
        | cons b bs ih => exact ih.cons (.bl b)
      exact .tup (SqT.mono sR (kb en hm)) (this en.1).1 (this en.1).2
    have rv := (rr.2 j _ _ hv hd).mono sR
    have t2 : Reps K ct.b R1 [.ref en.2.1, en.2.2] [.tup (en.1.map D.bl), dv] := (Reps.nil.cons rv).cons rk
    exact .tup (.inl (.inl (by rw [r2 ht]; exact at'))) t2.1 t2.2
  have nR : R1 p = none := by rw [r1 pn]; exact ok.same.free hp
  refine q (.ref p) R1 H' (ok.gr ex) (ok.add ex (G := fun b => b = p) (.flat hl rfl reps) fun b hb => ?_) ok.len.symm
  rw [hb]
  exact ⟨hp, nR, by rw [hl]; exact Option.some_ne_none _⟩
/-! ### a deep look for an item -/
def inDeep (neg : Bool) (x : D) (ds : List D) : Option D := match toPy x, toPys ds with
  | some p, some ps => if (SeqAt.shaped p && SeqAt.shaped (.list ps)) = true then some (.bl (if neg = true then !ps.any fun z => PyData.eqv z p else ps.any fun z => PyData.eqv z p)) else none
  | _, _ => none
def rInDp (K : PySem.W.Frag) (neg : Bool) : R2 := fun x y H Q => ∃ d ds, Dp K H x d ∧ Dp K H y (.list ds) ∧ SeqAt.shaped d = true ∧ SeqAt.shaped (.list ds) = true ∧ Q (.bl (if neg = true then !ds.any fun z => PyData.eqv z d else ds.any fun z => PyData.eqv z d)) H
theorem op_inDp {X : Cx} {K : PySem.W.Frag} (hK : X.K = K) (hu : X.A.units + 65 < cLine) : OpR X (compareOp .In) (rInDp K false) := by
  subst hK
  exact op_inD hu
theorem op_notInDp {X : Cx} {K : PySem.W.Frag} (hK : X.K = K) (hu : X.A.units + 65 < cLine) : OpR X (compareOp .NotIn) (rInDp K true) := by
  subst hK
  exact op_notInD hu
theorem toPys_isO : ∀ {ds : List D} {ps : List PyData}, toPys ds = some ps → ∀ d ∈ ds, d.isO = false
  | [], _, _, d, h => nomatch h
  | e :: ds, _, h, d, hd => by
    rw [toPys] at h
    split at h
    · rename_i x xs h1 h2
      rcases List.mem_cons.mp hd with rfl | hd
      · cases d <;> first | rfl | (rw [toPy] at h1; cases h1)
      · exact toPys_isO h2 d hd
    · cases h
def mInP (neg : Bool) (f : M D) (i : Nat) : M D := mB f fun x => mB (mGet fun ρ => seqOf ρ[i]?) fun ds => mO (inDeep neg x ds)
theorem sim_inP {neg : Bool} {i : Nat} {ta : TE} {f : M D} (hf : SimF K ct ms vp W ta f) : SimF K ct ms vp W (tOp (rInDp K neg) ta (tVar i)) (mInP neg f i) := fun H0 ρ σ R H ok Q q =>
  hf H0 ρ σ R H ok _ (Po.mono (Po.bind q) fun d ρ1 q w R1 H1 g1 ok1 r1 => by
    obtain ⟨ds, e, q⟩ := Po.get (Po.bind q)
    obtain ⟨dd, e2, e3⟩ := seqOf_some e
    obtain ⟨a, vs, x, y, l, rd⟩ := ok1.seq e2 e3
    obtain ⟨d3, e4, q⟩ := Po.opt q
    unfold inDeep at e4
    split at e4
    · rename_i p ps h1 h2
      split at e4
      · rename_i hc
        cases e4
        obtain ⟨s1, s2⟩ := Bool.and_eq_true_iff.mp hc
        have rs : Reps K ct.b R1 vs ds := ⟨l, fun k v d p q => rd k v d p q (toPys_isO h2 d (List.mem_of_getElem? q))⟩
        exact ⟨.ref a, x, p, ps, dp_of _ _ _ h1 (r1.mono ok1.same), .lst (sql0 y) (dps_of _ _ _ h2 (rs.mono ok1.same)), s1, s2, q _ R1 H1 g1 ok1 (.bl _)⟩
      · cases e4
    · cases e4)
theorem units65 {k : Nat} {A : Around} (r : Room k A) : A.units + 65 < cLine := by have := r.un; omega
theorem units1 {k : Nat} {A : Around} (r : Room k A) : A.units + 1 < cLine := by have := r.un; omega
theorem op_inBA {X : Cx} {K : PySem.W.Frag} (hK : X.K = K) (hu : X.A.units + 1 < cLine) : OpR X (compareOp .In) (rInB K false) := by
  subst hK
  exact op_inB hu
theorem op_notInBA {X : Cx} {K : PySem.W.Frag} (hK : X.K = K) (hu : X.A.units + 1 < cLine) : OpR X (compareOp .NotIn) (rInB K true) := by
  subst hK
  exact op_notInB hu
theorem set_dicBA {X : Cx} {K : PySem.W.Frag} (hK : X.K = K) (hu : X.A.units + 1 < cLine) : PSet X (rSetB K) := by
  subst hK
  exact set_dicB hu
end
section
variable {ρ : Env}
@[simp] theorem odcOf_odc {ks ds : List D} : odcOf (some (some (.odc 0 ks ds))) = some (ks, ds) := (rfl)
@[simp] theorem a_mNewD : mNewD ρ = .ok (.odc 0 [] []) ρ := (rfl)
@[simp] theorem a_mInD {neg : Bool} {i : Nat} {f : M D} : mInD neg f i ρ = bK (f ρ) fun x => mB (mGet fun ρ => odcOf ρ[i]?) fun z => mB (mO (keyD x)) fun k => mP (.bl (if neg = true then !hasD k z.1 else hasD k z.1)) := a_mB
@[simp] theorem a_mSetD {i : Nat} {f g : M D} : mSetD i f g ρ = tK (f ρ) fun x => mThen (mGet fun ρ => odcOf ρ[i]?) fun _ => mThen g fun y => mThen (mGet fun ρ => odcOf ρ[i]?) fun z => mThen (mO (keyD y)) fun k => mThen (mO (if hasD k z.1 = true then none else szok z.1.length)) fun _ ρ => .nx (ρ.set i (some (.odc 0 (z.1 ++ [.tup (k.map D.bl)]) (z.2 ++ [x])))) := a_mThen
@[simp] theorem a_mItems {i : Nat} : mItems i ρ = bK (oK (odcOf ρ[i]?) ρ) fun z => mP (.ols (pairD z.1 z.2)) := by rw [mItems, a_mB, a_mGet]
@[simp] theorem a_mInP {neg : Bool} {i : Nat} {f : M D} : mInP neg f i ρ = bK (f ρ) fun x => mB (mGet fun ρ => seqOf ρ[i]?) fun ds => mO (inDeep neg x ds) := a_mB
@[simp] theorem isO_odc {k : Nat} {ks ds : List D} : D.isO (.odc k ks ds) = true := (rfl)
@[simp] theorem isO_dct {k : Nat} {ks ds : List D} : D.isO (.dct k ks ds) = false := (rfl)
@[simp] theorem fz_odc {k : Nat} {ks ds : List D} : D.fz (.odc k ks ds) = .dct k ks ds := by simp [D.fz]
@[simp] theorem keyD_bls {k : List Bool} : keyD (.tup (k.map D.bl)) = some k := keyD_key k
end
end Y

namespace Y
open PySem PySem.Spec PyProof.Rows L2
section
variable {K : PySem.W.Frag} {ct : CT} {ms : List Nat} {W : WX} {H0 R R' H H' : Hp} {vp : Nat → V} {ρ : Env} {σ : L2.St}
/-! ### zip -/
def isTp : D → Bool
  | .tup _ => true
  | .tpx _ => true
  | _ => false
def zipD : List D → Option (List D)
  | [x, y] => match seqD x, seqD y with
    | some xs, some ys => if (isTp x || !isTp y) = true then some (List.zipWith (fun a b => D.tup [a, b]) xs ys) else none
    | _, _ => none
  | _ => none
theorem SqK.mono {k : Bool} {a : Addr} {xs : List V} (e : Same H H') (h : SqK K k H a xs) : SqK K k H' a xs := by
  cases k
  · exact SqL.mono e h
  · exact SqT.mono e h
theorem seqK_some {v : V} {d : D} {ds : List D} (h : seqD d = some ds) (r : Rep K ct.b R v d) : ∃ a vs, v = .ref a ∧ SqK K (isTp d) R a vs ∧ Reps K ct.b R vs ds := by
  cases d <;> simp only [seqD] at h <;> try (cases h; done)
  all_goals cases h
  · obtain ⟨a, vs, e, h, t⟩ := r.lst_inv
    exact ⟨a, vs, e, sql0 h, t⟩
  · obtain ⟨a, vs, e, h, t⟩ := r.tup_inv
    exact ⟨a, vs, e, h, t⟩
  · obtain ⟨a, vs, e, h, t⟩ := r.tpx_tup.tup_inv
    exact ⟨a, vs, e, h, t⟩
theorem itok_zip {k1 k2 : Bool} {a b : Addr} {xs ys : List V} {ds es : List D} (qa : SqK K k1 R a xs) (qb : SqK K k2 R b ys) (ra : Reps K ct.b R xs ds) (rb : Reps K ct.b R ys es) : ItOk K ct (ItZ K k1 k2 a b xs ys) R (List.zipWith (fun a b => D.tup [a, b]) ds es) := fun R1 H1 e1 e2 i => by
  have ha : SqK K k1 H1 a xs := SqK.mono e2 (SqK.mono e1 qa)
  have hb : SqK K k2 H1 b ys := SqK.mono e2 (SqK.mono e1 qb)
  refine ⟨fun d e => ?_, fun hl => ⟨ha, hb, ?_⟩⟩
  · rw [List.getElem?_zipWith] at e
    cases h1 : ds[i]? with
    | none => rw [h1] at e; cases e
    | some x =>
      cases h2 : es[i]? with
      | none => rw [h1, h2] at e; cases e
      | some y =>
        rw [h1, h2] at e
        cases e
        have l1 := (List.getElem?_eq_some_iff.mp h1).1
        have l2 := (List.getElem?_eq_some_iff.mp h2).1
        refine ⟨⟨ha, hb, by rw [ra.1]; exact l1, by rw [rb.1]; exact l2⟩, fun v H2 ⟨T, u, w, ev, hT, eH, hu, hw⟩ => ?_⟩
        subst ev eH
        have ex := Ext.new (o := .tup [u, w]) e2 hT
        have t : Reps K ct.b (upd R1 T (.tup [u, w])) [u, w] [x, y] := (Reps.nil.cons (((rb.2 i w y hw h2).mono e1).mono ex.r)).cons (((ra.2 i u x hu h1).mono e1).mono ex.r)
        exact ⟨_, ex, .tup (.inl (.inl upd_same)) t.1 t.2⟩
  · rw [List.length_zipWith] at hl
    rw [ra.1, rb.1]
    omega
def mZip (g : M (List D)) : M (List D) := mB g fun ds => mO (zipD ds)
theorem sim_zip {t : TA} {g : M (List D)} (hg : SimA K ct ms vp W t g) : SimI K ct ms vp W (iZm K t) (mZip g) := fun H0 ρ σ R H ok Rr q =>
  hg H0 ρ σ R H ok _ (Po.mono (Po.bind q) fun ds ρ1 q vs R1 H1 g1 ok1 r1 => by
    obtain ⟨zs, e, q⟩ := Po.opt q
    match ds, e, r1 with
    | [x, y], e, r1 =>
      obtain ⟨v, u, rfl, rx, ry⟩ := two r1
      unfold zipD at e
      dsimp only at e
      split at e
      · rename_i xs ys h1 h2
        split at e
        · rename_i hk
          cases e
          obtain ⟨a, us, rfl, qa, ra⟩ := seqK_some h1 rx
          obtain ⟨b, ws, rfl, qb, rb⟩ := seqK_some h2 ry
          refine ⟨isTp x, isTp y, a, b, us, ws, rfl, SqK.mono ok1.same qa, SqK.mono ok1.same qb, ?_, q _ R1 H1 g1 ok1 (itok_zip qa qb ra rb)⟩
          simpa using hk
        · cases e
      · cases e)
/-! ### instances with a dict -/
/-- what a slot that holds an instance of one's own, with a dict, stands for -/
theorem Ok.inst (ok : Ok K ct H0 ms vp ρ σ R H) {i c : Nat} {ns : List Str} {ds : List D} (hs : ct.b.slt c = false) (h : ρ[i]? = some (some (.oin c ns ds))) :
    ∃ a dx vs, σ[i]? = some (some (.ref a)) ∧ H a = some (.ins (ct.b.adr c) dx (ns.zip vs)) ∧ ns.length = vs.length ∧ vs.length = ds.length ∧ ∀ (k : Nat) (v : V) (d : D), vs[k]? = some v → ds[k]? = some d → d.isO = false → Rep K ct.b R v d := by
  obtain ⟨F, f1, _⟩ := ok.own
  obtain ⟨v, hv, w⟩ := f1 i _ h
  cases w with
  | fz w => cases w
  | @oin _ a dx _ _ vs _ G hs' ha hF hn hl hc hG hd => exact ⟨a, dx, vs, hv, ha, hn, hl, fun k v d x y z => (hc k v d x y).rep z⟩
  | osl hs' => rw [hs] at hs'; cases hs'
/-- a value of one's own becomes a field -/
theorem Ok.putFld {v : V} {d : D} (ok : Ok K ct H0 ms vp (ρ ++ [some d]) (σ ++ [some v]) R H) (l : ρ.length = σ.length) (hm : ∀ i ∈ ms, i < σ.length) {i c : Nat} {ns : List Str} {ds : List D} (hs : ct.b.slt c = false) (h : ρ[i]? = some (some (.oin c ns ds))) :
    ∃ a dx vs, σ[i]? = some (some (.ref a)) ∧ H a = some (.ins (ct.b.adr c) dx (ns.zip vs)) ∧ ns.length = vs.length ∧ vs.length = ds.length ∧
      ∀ (ns' : List Str) (vs' : List V) (ds' : List D) (k0 : Nat) (src : Nat → Option Nat), ns'.length = vs'.length → vs'.length = ds'.length → (∀ k j, src k = some j → vs'[k]? = vs[j]? ∧ ds'[k]? = ds[j]?) →
        (∀ (k : Nat) (v' : V) (d' : D), src k = none → vs'[k]? = some v' → ds'[k]? = some d' → k = k0 ∧ v' = v ∧ d' = d) → (∀ k k' j, src k = some j → src k' = some j → k = k') →
        Ok K ct H0 ms vp (ρ.set i (some (.oin c ns' ds'))) σ R (upd H a (.ins (ct.b.adr c) dx (ns'.zip vs'))) := by
  obtain ⟨s, kp, iv, _, p, F, f1, f2, f3⟩ := ok
  have hi : i < ρ.length := (List.getElem?_eq_some_iff.mp h).1
  obtain ⟨u, hu, w⟩ := f1 i _ (by rw [List.getElem?_append_left hi]; exact h)
  rw [List.getElem?_append_left (by omega)] at hu
  have hv : ∃ v', (σ ++ [some v])[ρ.length]? = some (some v') ∧ Own K ct.b R H (F ρ.length) v' d := f1 ρ.length d (by simp)
  have ov : Own K ct.b R H (F ρ.length) v d := by
    obtain ⟨v', x, y⟩ := hv
    rw [l] at x
    have : v = v' := by simpa using x
    rw [this]
    exact y
  cases w with
  | fz w => cases w
  | osl hs' => rw [hs] at hs'; cases hs'
  | @oin _ a dx _ _ vs _ G hs' ha hF hn hl hc hG hd =>
    refine ⟨a, dx, vs, hu, ha, hn, hl, fun ns' vs' ds' k0 src e0 e1 e2 e3 e4 => ?_⟩
    obtain ⟨ra, _, h0a⟩ := f3 i a hF
    have nE : ∀ b, F ρ.length b → b ≠ a := fun b g e => f2 i ρ.length b (by omega) (by rw [e]; exact hF) g
    refine ⟨fun b o q => ?_, fun b o q => ?_, iv, by simpa using l.symm, fun j hj => ?_, fun j b => (j < ρ.length ∧ F j b) ∨ (j = i ∧ F ρ.length b), fun j d' q => ?_, fun j j' b ne x y => ?_, fun j b q => ?_⟩
    · rw [upd_ne (ne_of_none q ra)]; exact s b o q
    · rw [upd_ne (ne_of_none q h0a)]; exact kp b o q
    · have q := p j hj
      rw [List.getElem?_append_left (hm j hj)] at q
      exact q
    · by_cases z : j = i
      · subst z
        rw [List.getElem?_set_self hi] at q
        cases q
        refine ⟨.ref a, hu, .oin (fun n b => (∃ m, src n = some m ∧ G m b) ∨ (src n = none ∧ n = k0 ∧ F ρ.length b)) hs upd_same (.inl ⟨hi, hF⟩) e0 e1 (fun n v' d' x y => ?_) (fun n b g => ?_) fun n m b ne g g' => ?_⟩
        · cases q : src n with
          | none =>
            obtain ⟨q1, q2, q3⟩ := e3 n v' d' q x y
            subst q1 q2 q3
            refine (ov.monoH fun b o g q' => ?_).monoF fun b g => .inr ⟨rfl, rfl, g⟩
            rw [upd_ne (nE b g)]
            exact q'
          | some m =>
            obtain ⟨t1, t2⟩ := e2 n m q
            refine ((hc m v' d' (t1 ▸ x) (t2 ▸ y)).monoH fun b o g q' => ?_).monoF fun b g => .inl ⟨m, rfl, g⟩
            rw [upd_ne (hG m b g).2]
            exact q'
        · rcases g with ⟨m, _, g⟩ | ⟨_, _, g⟩
          · exact ⟨.inl ⟨hi, (hG m b g).1⟩, (hG m b g).2⟩
          · exact ⟨.inr ⟨rfl, g⟩, nE b g⟩
        · rcases g with ⟨n', q1, q2⟩ | ⟨q1, q2, q3⟩ <;> rcases g' with ⟨m', r1, r2⟩ | ⟨r1, r2, r3⟩
          · by_cases z : n' = m'
            · subst z; exact ne (e4 n m n' q1 r1)
            · exact hd n' m' b z q2 r2
          · exact f2 j ρ.length b (by omega) (hG n' b q2).1 r3
          · exact f2 j ρ.length b (by omega) (hG m' b r2).1 q3
          · exact ne (q2.trans r2.symm)
      · rw [List.getElem?_set_ne (Ne.symm z)] at q
        have hj : j < ρ.length := (List.getElem?_eq_some_iff.mp q).1
        obtain ⟨u', x, y⟩ := f1 j d' (by rw [List.getElem?_append_left hj]; exact q)
        rw [List.getElem?_append_left (by omega)] at x
        refine ⟨u', x, (y.monoH fun b o g q' => ?_).monoF fun b g => .inl ⟨hj, g⟩⟩
        rw [upd_ne fun e => f2 j i b z g (by rw [e]; exact hF)]
        exact q'
    · rcases x with x | x <;> rcases y with y | y
      · exact f2 j j' b ne x.2 y.2
      · exact f2 j ρ.length b (by omega) x.2 y.2
      · exact f2 j' ρ.length b (by omega) y.2 x.2
      · exact ne (x.1.trans y.1.symm)
    · have q' : ∃ m, F m b := by
        rcases q with q | q
        · exact ⟨j, q.2⟩
        · exact ⟨ρ.length, q.2⟩
      obtain ⟨m, q'⟩ := q'
      obtain ⟨x, y, z⟩ := f3 m b q'
      refine ⟨x, ?_, z⟩
      by_cases e : b = a
      · rw [e, upd_same]; exact Option.some_ne_none _
      · rw [upd_ne e]; exact y
def oinOf (c : Nat) : Option (Option D) → Option (List Str × List D)
  | some (some (.oin k ns ds)) => if k = c then some (ns, ds) else none
  | _ => none
theorem oinOf_some {c : Nat} {x : Option (Option D)} {ns : List Str} {ds : List D} (h : oinOf c x = some (ns, ds)) : x = some (some (.oin c ns ds)) := by
  unfold oinOf at h
  split at h
  · split at h
    · rename_i hk
      cases h
      rw [hk]
    · cases h
  · cases h
theorem zip_put {f : Str} {y : V} : ∀ {ns : List Str} {vs : List V}, ns.length = vs.length → f ∉ ns → putF f y (ns.zip vs) = (ns ++ [f]).zip (vs ++ [y])
  | [], [], _, _ => rfl
  | n :: ns, v :: vs, hl, hf => by
    have h1 : ¬ n = f := fun e => hf (by rw [e]; exact List.mem_cons_self)
    have ih := zip_put (f := f) (y := y) (ns := ns) (vs := vs) (by simpa using hl) fun h => hf (List.mem_cons_of_mem _ h)
    show putF f y ((n, v) :: ns.zip vs) = (n, v) :: (ns ++ [f]).zip (vs ++ [y])
    rw [putF, if_neg h1, ih]
theorem idx_ne {f n : Str} {ns : List Str} (e : ¬ n = f) : (n :: ns).idxOf f = ns.idxOf f + 1 := by
  rw [List.idxOf_cons, beq_eq_false_iff_ne.mpr e]
  rfl
theorem zip_set {f : Str} {y : V} : ∀ {ns : List Str} {vs : List V}, ns.length = vs.length → f ∈ ns → putF f y (ns.zip vs) = ns.zip (vs.set (ns.idxOf f) y)
  | [], _, _, hf => by cases hf
  | n :: ns, v :: vs, hl, hf => by
    show putF f y ((n, v) :: ns.zip vs) = _
    by_cases e : n = f
    · rw [putF, if_pos e, e, List.idxOf_cons_self]
      rfl
    · have hf' : f ∈ ns := by
        rcases List.mem_cons.mp hf with z | z
        · exact absurd z.symm e
        · exact z
      have ih := zip_set (f := f) (y := y) (ns := ns) (vs := vs) (by simpa using hl) hf'
      rw [putF, if_neg e, ih, idx_ne e]
      rfl
/-- names and values with f put -/
def putD (f : Str) (x : D) (z : List Str × List D) : List Str × List D := if f ∈ z.1 then (z.1, z.2.set (z.1.idxOf f) x) else (z.1 ++ [f], z.2 ++ [x])
/-- self.f = e -/
def mSetFld (i c : Nat) (f : Str) (g : M D) : Stm := mThen g fun x => mThen (mGet fun ρ => oinOf c ρ[i]?) fun z => mThen (mO (if 900 < z.1.length then none else some ())) fun _ ρ => .nx (ρ.set i (some (.oin c (putD f x z).1 (putD f x z).2)))
theorem sim_setFld {i c : Nat} {f : Str} {te : TE} {g : M D} (hs : ct.b.slt c = false) (hg : SimE K ct ms vp W te g) (hc : Cls K (ct.b.adr c)) (hn : NoAttr K (ct.b.adr c) f) : SimS K ct ms vp W (sFld K (tVar i) te f) (mSetFld i c f g) := fun H0 ρ σ R H ok D' q =>
  hg H0 ρ σ R H ok _ (Po.mono (PoS.bind q) fun x ρ1 q v R1 H1 g1 ok1 l1 => by
    obtain ⟨⟨ns, ds⟩, e0, q⟩ := PoS.get q
    obtain ⟨u, e1, q⟩ := PoS.opt q
    obtain ⟨a, dx, vs, x0, y, hn', hl, put⟩ := ok1.putFld l1 ok.mslt hs (oinOf_some e0)
    dsimp only at e1 q
    split at e1
    · cases e1
    · rename_i hf
      refine ⟨.ref a, x0, a, _, dx, _, rfl, y, hc, hn, by rw [List.length_zip]; omega, ?_⟩
      by_cases hm : f ∈ ns
      · rw [zip_set hn' hm]
        have hx : ns.idxOf f < ns.length := List.idxOf_lt_length_of_mem hm
        refine q σ R1 _ g1 ?_
        rw [show putD f x (ns, ds) = (ns, ds.set (ns.idxOf f) x) from if_pos hm]
        dsimp only at hm hx ⊢
        refine put ns _ _ (ns.idxOf f) (fun k => if k = ns.idxOf f then none else some k) (by simpa using hn') (by simpa using hl) (fun k j e => ?_) (fun k v' d' e e1 e2 => ?_) fun k k' j e e' => ?_
        · split at e
          · cases e
          · cases e
            exact ⟨List.getElem?_set_ne (by omega), List.getElem?_set_ne (by omega)⟩
        · split at e
          · rename_i hk
            subst hk
            rw [List.getElem?_set_self (by omega)] at e1
            rw [List.getElem?_set_self (by omega)] at e2
            cases e1
            cases e2
            exact ⟨rfl, rfl, rfl⟩
          · cases e
        · split at e <;> split at e' <;> cases e <;> cases e'
          rfl
      · rw [zip_put hn' hm]
        refine q σ R1 _ g1 ?_
        rw [show putD f x (ns, ds) = (ns ++ [f], ds ++ [x]) from if_neg hm]
        dsimp only at hm ⊢
        refine put _ _ _ vs.length (fun k => if k < vs.length then some k else none) (by simp [hn']) (by simp [hl]) (fun k j e => ?_) (fun k v' d' e e1 e2 => ?_) fun k k' j e e' => ?_
        · split at e
          · cases e
            exact ⟨List.getElem?_append_left (by assumption), List.getElem?_append_left (by omega)⟩
          · cases e
        · split at e
          · cases e
          · have hk : k = vs.length := by
              have := (List.getElem?_eq_some_iff.mp e1).1
              simp at this
              omega
            subst hk
            have z1 : v = v' := by simpa using e1
            have z2 : x = d' := by rw [hl] at e2; simpa using e2
            exact ⟨rfl, z1.symm, z2.symm⟩
        · split at e <;> split at e' <;> cases e <;> cases e'
          rfl)
theorem zip_look {f : Str} : ∀ {ns : List Str} {vs : List V} {ds : List D} {d : D}, vs.length = ds.length → (ns.zip ds).lookup f = some d → ∃ (k : Nat) (v : V), ns[k]? = some f ∧ vs[k]? = some v ∧ ds[k]? = some d ∧ (ns.zip vs).lookup f = some v
  | [], _, _, _, _, h => by simp at h
  | n :: ns, [], [], _, _, h => by simp at h
  | n :: ns, v :: vs, e :: ds, d, r, h => by
    rw [List.zip_cons_cons, List.lookup_cons] at h ⊢
    split at h
    · rename_i hb
      cases h
      exact ⟨0, v, by rw [show f = n from beq_iff_eq.mp hb]; rfl, rfl, rfl, rfl⟩
    · obtain ⟨k, w, h1, h2, h3, h4⟩ := zip_look (by simpa using r) h
      exact ⟨k + 1, w, h1, h2, h3, h4⟩
  | _ :: _, [], _ :: _, _, r, _ => by cases r
  | _ :: _, _ :: _, [], _, r, _ => by cases r
/-- a field of what stands in a slot -/
def insOf (c : Nat) : Option (Option D) → Option (List Str × List D)
  | some (some (.oin k ns ds)) => if k = c then some (ns, ds) else none
  | some (some (.ins k ns ds)) => if k = c then some (ns, ds) else none
  | _ => none
theorem Rep.ins_inv {v : V} {c : Nat} {ns : List Str} {ds : List D} (h : Rep K ct.b R v (.ins c ns ds)) (hs : ct.b.slt c = false) : ∃ a dx vs, v = .ref a ∧ R a = some (.ins (ct.b.adr c) dx (ns.zip vs)) ∧ ns.length = vs.length ∧ Reps K ct.b R vs ds := by
  cases h with
  | ins _ h hn hl hc => exact ⟨_, _, _, rfl, h, hn, hl, hc⟩
  | slt h _ _ _ _ _ => rw [hs] at h; cases h
theorem Ok.insS (ok : Ok K ct H0 ms vp ρ σ R H) {i c : Nat} {ns : List Str} {ds : List D} (hs : ct.b.slt c = false) (h : insOf c ρ[i]? = some (ns, ds)) :
    ∃ a dx vs, σ[i]? = some (some (.ref a)) ∧ H a = some (.ins (ct.b.adr c) dx (ns.zip vs)) ∧ ns.length = vs.length ∧ vs.length = ds.length ∧ ∀ (k : Nat) (v : V) (d : D), vs[k]? = some v → ds[k]? = some d → d.isO = false → Rep K ct.b R v d := by
  unfold insOf at h
  split at h
  · rename_i k ns' ds' e
    split at h
    · rename_i hk
      cases h
      subst hk
      exact ok.inst hs e
    · cases h
  · rename_i k ns' ds' e
    split at h
    · rename_i hk
      cases h
      subst hk
      obtain ⟨v, x, r⟩ := ok.slot e rfl
      obtain ⟨a, dx, vs, rfl, q, hn, t⟩ := r.ins_inv hs
      exact ⟨a, dx, vs, x, ok.same _ _ q, hn, t.1, fun k v d x y _ => t.2 k v d x y⟩
    · cases h
  · cases h
def fldV (z : List Str × List D) (f : Str) : Option D := ((z.1.zip z.2).lookup f).bind fun d => if d.isO = true then none else some d
def mFldV (i c : Nat) (f : Str) : M D := mB (mGet fun ρ => insOf c ρ[i]?) fun z => mO (fldV z f)
theorem fldV_some {z : List Str × List D} {f : Str} {d : D} (h : fldV z f = some d) : (z.1.zip z.2).lookup f = some d ∧ d.isO = false := by
  obtain ⟨d', h1, h2⟩ := Option.bind_eq_some_iff.mp h
  split at h2
  · cases h2
  · rename_i hn
    cases h2
    exact ⟨h1, by simpa using hn⟩
theorem sim_fldV {i c : Nat} {f : Str} (hs : ct.b.slt c = false) (hc : Cls K (ct.b.adr c)) (hn : NoAttr K (ct.b.adr c) f) : SimF K ct ms vp W (tFld K (tVar i) f) (mFldV i c f) := fun H0 ρ σ R H ok Q q => by
  obtain ⟨⟨ns, ds⟩, e0, q⟩ := Po.get (Po.bind q)
  obtain ⟨d, e1, q⟩ := Po.opt q
  obtain ⟨a, dx, vs, x, y, hn', hl, rd⟩ := ok.insS hs e0
  obtain ⟨e2, o⟩ := fldV_some e1
  obtain ⟨k, v, _, h2, h3, h4⟩ := zip_look hl e2
  exact ⟨.ref a, x, a, _, dx, _, v, rfl, y, hc, hn, h4, q v R H (Gr.refl _ _) ok (rd k v d h2 h3 o)⟩
/-! the receiver of a method -/
def recvD (c : Nat) (m : Str) : D → Option Unit
  | .ins k ns _ => if k = c ∧ m ∉ ns then some () else none
  | _ => none
theorem zip_no {m : Str} {vs : List V} : ∀ {ns : List Str}, m ∉ ns → (ns.zip vs).lookup m = none := by
  induction vs with
  | nil => intro ns _; simp
  | cons v vs ih =>
    intro ns h
    cases ns with
    | nil => rfl
    | cons n ns =>
      have h1 : (m == n) = false := beq_eq_false_iff_ne.mpr fun e => h (by rw [e]; exact List.mem_cons_self)
      rw [List.zip_cons_cons, List.lookup_cons, h1]
      exact ih fun z => h (List.mem_cons_of_mem _ z)
def bRecv (c : Nat) (m : Str) (f : M D) (g : M (List Arg)) : M (List Arg) := mB f fun x => mB (mO (recvD c m x)) fun _ => mB g fun as => mP (.inr x :: as)
theorem sim_recv {c : Nat} {m : Str} {ta : TE} {t : TA} {f : M D} {g : M (List Arg)} (hs : ct.b.slt c = false) (hf : SimF K ct ms vp W ta f) (hg : SimB K ct ms vp W t g) : SimB K ct ms vp W (tRecvD (ct.b.adr c) m ta t) (bRecv c m f g) := fun H0 ρ σ R H ok Q q =>
  hf H0 ρ σ R H ok _ (Po.mono (Po.bind q) fun d ρ1 q v R1 H1 g1 ok1 r1 => by
    obtain ⟨u, e, q⟩ := Po.opt (Po.bind q)
    obtain ⟨ns, ds, rfl, hm⟩ : ∃ ns ds, d = .ins c ns ds ∧ m ∉ ns := by
      cases d <;> simp only [recvD] at e <;> try (cases e; done)
      split at e
      · rename_i hk
        exact ⟨_, _, by rw [hk.1], hk.2⟩
      · cases e
    obtain ⟨a, dx, vs, rfl, h1, h2, h3⟩ := r1.ins_inv hs
    exact ⟨a, dx, _, rfl, ok1.same _ _ h1, zip_no hm, hg H0 ρ1 σ R1 H1 ok1 _ (Po.gr g1 (Po.bind q) fun as ρ2 q ws R2 H2 g2 ok2 r2 => q _ R2 H2 (g1.trans g2) ok2 (.cons (r1.mono g2.1) r2))⟩)
theorem sim_methD {ms' : List Nat} {m : List D → Ans} {c : Nat} {n : Str} {f : M D} {g : M (List Arg)} {ta : TE} {t : TA} (hs : ct.b.slt c = false) (hf : SimF K ct ms vp W ta f) (hg : SimB K ct ms vp W t g) : SimE K ct ms vp W (tMethD (ct.b.adr c) n (SpM K ct.b ms' m) (WE W) ta t) (mCall ms' m (bRecv c n f g)) :=
  call_core (sim_recv hs hf hg) fun σ vs H Q h => h
theorem sim_methD0 {ms' : List Nat} {m : List D → Ans} {c : Nat} {n : Str} {f : M D} {g : M (List Arg)} {ta : TE} {t : TA} {E : L2.St → XK} (hs : ct.b.slt c = false) (hf : SimF K ct ms vp W ta f) (hg : SimB K ct ms vp W t g) : SimE K ct ms vp W (tMethD (ct.b.adr c) n (SpM K ct.b ms' m) E ta t) (mCall ms' (noX m) (bRecv c n f g)) :=
  call_core (S := fun σ vs H Q => SpM K ct.b ms' m vs H Q (E σ)) (sim_recv hs hf hg) fun σ vs H Q h => h.noX (E σ)
/-! an instance called -/
def isIns (c : Nat) : D → Option Unit
  | .ins k _ _ => if k = c then some () else none
  | _ => none
def bRecvO (c : Nat) (f : M D) (g : M (List Arg)) : M (List Arg) := mB f fun x => mB (mO (isIns c x)) fun _ => mB g fun as => mP (.inr x :: as)
theorem sim_recvO {c : Nat} {ta : TE} {t : TA} {f : M D} {g : M (List Arg)} (hs : ct.b.slt c = false) (hf : SimF K ct ms vp W ta f) (hg : SimB K ct ms vp W t g) : SimB K ct ms vp W (tRecvO (ct.b.adr c) ta t) (bRecvO c f g) := fun H0 ρ σ R H ok Q q =>
  hf H0 ρ σ R H ok _ (Po.mono (Po.bind q) fun d ρ1 q v R1 H1 g1 ok1 r1 => by
    obtain ⟨u, e, q⟩ := Po.opt (Po.bind q)
    obtain ⟨ns, ds, rfl⟩ : ∃ ns ds, d = .ins c ns ds := by
      cases d <;> simp only [isIns] at e <;> try (cases e; done)
      split at e
      · rename_i hk
        exact ⟨_, _, by rw [hk]⟩
      · cases e
    obtain ⟨a, dx, vs, rfl, h1, h2, h3⟩ := r1.ins_inv hs
    exact ⟨a, rfl, hg H0 ρ1 σ R1 H1 ok1 _ (Po.gr g1 (Po.bind q) fun as ρ2 q ws R2 H2 g2 ok2 r2 => ⟨⟨dx, _, ok2.same _ _ (g2.1 _ _ h1)⟩, q _ R2 H2 (g1.trans g2) ok2 (.cons (r1.mono g2.1) r2)⟩)⟩)
theorem sim_callOD {ms' : List Nat} {m : List D → Ans} {c : Nat} {f : M D} {g : M (List Arg)} {ta : TE} {t : TA} (hs : ct.b.slt c = false) (hf : SimF K ct ms vp W ta f) (hg : SimB K ct ms vp W t g) : SimE K ct ms vp W (tCallOD (ct.b.adr c) (SpM K ct.b ms' m) (WE W) ta t) (mCall ms' m (bRecvO c f g)) :=
  call_core (sim_recvO hs hf hg) fun σ vs H Q h => h
theorem sim_callOD0 {ms' : List Nat} {m : List D → Ans} {c : Nat} {f : M D} {g : M (List Arg)} {ta : TE} {t : TA} {E : L2.St → XK} (hs : ct.b.slt c = false) (hf : SimF K ct ms vp W ta f) (hg : SimB K ct ms vp W t g) : SimE K ct ms vp W (tCallOD (ct.b.adr c) (SpM K ct.b ms' m) E ta t) (mCall ms' (noX m) (bRecvO c f g)) :=
  call_core (S := fun σ vs H Q => SpM K ct.b ms' m vs H Q (E σ)) (sim_recvO hs hf hg) fun σ vs H Q h => h.noX (E σ)
/-! making -/
def kK : Ans → Env → Res D
  | .ok .non [d], ρ => .ok d ρ
  | .ex k x [_], ρ => .ex k x ρ
  | _, _ => .st
def mkK (c : Nat) (m : List D → Ans) (ds : List D) : M D := fun ρ => kK (m (.oin c [] [] :: ds)) ρ
def mMake (c : Nat) (m : List D → Ans) (f : M (List Arg)) : M D := mB f fun as => mB (mGet fun ρ => if brw 1 as = [] then argsD ρ as else none) fun ds => mkK c m ds
theorem brw_nil_inr : ∀ {as : List Arg} {n : Nat}, brw n as = [] → ∀ a ∈ as, ∃ d, a = .inr d
  | .inl j :: as, n, h, a, ha => by rw [brw] at h; cases h
  | .inr d :: as, n, h, a, ha => by
    rw [brw] at h
    rcases List.mem_cons.mp ha with rfl | ha
    · exact ⟨d, rfl⟩
    · exact brw_nil_inr h a ha
theorem argsD_any {ρ ρ' : Env} : ∀ {as : List Arg}, (∀ a ∈ as, ∃ d, a = Sum.inr d) → argsD ρ as = argsD ρ' as
  | [], _ => rfl
  | a :: as, h => by
    obtain ⟨d, rfl⟩ := h a List.mem_cons_self
    rw [argsD, argsD, argsD_any (ρ := ρ) (ρ' := ρ') fun b hb => h b (List.mem_cons_of_mem _ hb)]
    rfl
theorem make_core {c : Nat} {m : List D → Ans} {f : M (List Arg)} {ta : TA} {S : L2.St → List V → Hp → VK → Prop} (hf : SimB K ct ms vp W ta f) (hu : ∀ σ vs H Q, SpM K ct.b [0] m vs H Q (WE W σ) → S σ vs H Q) :
    SimE K ct ms vp W (fun σ H Q => ta σ H fun vs H1 => ∀ x dx, H1 x = none → H1 dx = none → dx ≠ x → S σ (.ref x :: vs) (upd (upd H1 dx (.own x)) x (.ins (ct.b.adr c) dx [])) (fun v H2 => v = .non ∧ Q (.ref x) H2)) (mMake c m f) := fun H0 ρ σ R H ok Q q => by
  refine hf H0 ρ σ R H ok _ (Po.mono (Po.bind q) fun as ρ1 q vs R1 H1 g1 ok1 r1 x dx hx hdx ne => ?_)
  obtain ⟨ds, e, q⟩ := Po.get (Po.bind q)
  split at e
  · rename_i hb
    have inr := brw_nil_inr hb
    have sm : Same H1 (upd (upd H1 dx (.own x)) x (.ins (ct.b.adr c) dx [])) := fun b o h => by
      rw [upd_ne (ne_of_none h hx), upd_ne (ne_of_none h hdx)]
      exact h
    have ex : Ext R1 H1 R1 (upd (upd H1 dx (.own x)) x (.ins (ct.b.adr c) dx [])) := ⟨Same.refl _, ok1.same.trans sm, sm, fun _ h => .inl h⟩
    have ob : Own K ct.b R1 (upd (upd H1 dx (.own x)) x (.ins (ct.b.adr c) dx [])) (fun b => b = x ∨ b = dx) (.ref x) (.oin c [] []) := by
      cases e : ct.b.slt c with
      | false => exact .oin (vs := []) (fun _ _ => False) e upd_same (.inl rfl) rfl rfl (fun i v d h => by simp at h) (fun _ _ h => h.elim) fun _ _ _ _ h => h.elim
      | true => exact .osl (vs := []) (ws := []) e (.inl ⟨upd_same, rfl⟩) (.inl rfl) (.inr rfl) ne (fun f h => by simp at h) (fun i f v h => by simp at h) rfl .nil
    have ok2 := ok1.add ex (v := .ref x) (d := .oin c [] []) ob fun b hb => by
      rcases hb with hb | hb
      · rw [hb]
        exact ⟨hx, ok1.same.free hx, by rw [upd_same]; exact Option.some_ne_none _⟩
      · rw [hb]
        exact ⟨hdx, ok1.same.free hdx, by rw [upd_ne ne, upd_same]; exact Option.some_ne_none _⟩
    have len : ρ1.length = σ.length := ok1.len.symm
    have ra : ArgsOk K ct (σ ++ [some (.ref x)]) R1 (.ref x :: vs) (.inl ρ1.length :: as) := by
      refine .cons (by show (σ ++ [some (V.ref x)])[ρ1.length]? = _; rw [len]; simp) ⟨r1.1, fun k v a h1 h2 => ?_⟩
      obtain ⟨d, rfl⟩ := inr a (List.mem_of_getElem? h2)
      exact r1.2 k v _ h1 h2
    have ea : argsD (ρ1 ++ [some (.oin c [] [])]) (.inl ρ1.length :: as) = some (.oin c [] [] :: ds) := by
      rw [argsD, argsD_any (ρ' := ρ1) inr, e]
      simp [argD]
    obtain ⟨HX, okX, back⟩ := ok2.back (ms' := [0]) (I := [ρ1.length]) ra ea (by rw [brw, hb]; rfl) (by rw [brw, hb]; rfl) (by simp)
    refine hu _ _ _ _ ⟨HX, R1, _, okX.cast rfl trivial, ?_⟩
    unfold mkK at q
    have pw : ∀ d1 : D, putW [ρ1.length] [d1] (ρ1 ++ [some (D.oin c [] [])]) = ρ1 ++ [some d1] := fun d1 => by
      show (ρ1 ++ [some (D.oin c [] [])]).set ρ1.length (some d1) = _
      simp [List.set_append]
    cases em : m (D.oin c [] [] :: ds) with
    | st => rw [em] at q; exact q.elim
    | ok d w =>
      rw [em] at q
      intro v R2 H2 g2 lw okr
      match w, lw with
      | [d1], _ =>
        obtain ⟨g3, b1, b2⟩ := back [d1] R2 H2 g2 rfl
        have okf := b1 _ _ (okr.cast rfl (ct.mono _ _ g2.1 okX.inv))
        rw [pw] at okf
        have ev : d = .non → v = .non := fun e => by
          subst e
          obtain ⟨F, f1, _⟩ := okf.own
          obtain ⟨u, h1, h2⟩ := f1 (ρ1.length + 1) .non (by simp)
          have h3 : (σ ++ [some (V.ref x)] ++ [some v])[ρ1.length + 1]? = some (some v) := by rw [len]; simp
          rw [h3] at h1
          cases h1
          exact (h2.rep rfl).non_inv
        cases d with
        | non =>
          refine ⟨ev rfl, q (.ref x) R2 H2 (g1.trans g3) (okf.pop (by simp [len]) ?_) len⟩
          intro i hi
          have := ok1.mslt i hi
          simp
          omega
        | _ => exact q.elim
    | ex k y w =>
      rw [em] at q
      intro od R2 H2 g2 lw okr xo
      match w, lw with
      | [d1], _ =>
        obtain ⟨g3, b1, b2⟩ := back [d1] R2 H2 g2 rfl
        have okf := b2 (okr.cast rfl (ct.mono _ _ g2.1 okX.inv))
        rw [pw] at okf
        exact q od R2 H2 (g1.trans g3) (okf.pop len fun i hi => ok1.mslt i hi) xo
  · cases e
theorem makeDS_core {c : Nat} {m m' : List D → Ans} {f : M (List Arg)} {ta : TA} {dvs : List V} {dds : List D} {E : L2.St → XK} (hf : SimB K ct ms vp W ta f) (hd : ∀ R, Reps K ct.b R dvs dds) (hu : ∀ σ vs H Q, SpM K ct.b [0] m vs H Q (WE W σ) → SpM K ct.b [0] m' vs H Q (E σ)) :
    SimE K ct ms vp W (tMakeDS (ct.b.adr c) (SpM K ct.b [0] m') dvs E ta) (mMake c m (bApp f dds)) := by
  have h : SimB K ct ms vp W (fun σ H Q => ta σ H fun vs H1 => Q (vs ++ dvs) H1) (bApp f dds) := fun H0 ρ σ R H ok Q q =>
    hf H0 ρ σ R H ok _ (Po.mono (Po.bind q) fun as ρ1 q vs R1 H1 g1 ok1 r1 => q (vs ++ dvs) R1 H1 g1 ok1 (r1.app (.of (hd R1))))
  exact make_core (c := c) (S := fun σ vs H Q => SpM K ct.b [0] m' vs H Q (E σ)) (ta := fun σ H Q => ta σ H fun vs H1 => Q (vs ++ dvs) H1) h hu
theorem sim_makeDS {c : Nat} {m : List D → Ans} {f : M (List Arg)} {ta : TA} {dvs : List V} {dds : List D} (hf : SimB K ct ms vp W ta f) (hd : ∀ R, Reps K ct.b R dvs dds) : SimE K ct ms vp W (tMakeDS (ct.b.adr c) (SpM K ct.b [0] m) dvs (WE W) ta) (mMake c m (bApp f dds)) :=
  makeDS_core hf hd fun _ _ _ _ h => h
theorem sim_makeDS0 {c : Nat} {m : List D → Ans} {f : M (List Arg)} {ta : TA} {dvs : List V} {dds : List D} {E : L2.St → XK} (hf : SimB K ct ms vp W ta f) (hd : ∀ R, Reps K ct.b R dvs dds) : SimE K ct ms vp W (tMakeDS (ct.b.adr c) (SpM K ct.b [0] m) dvs E ta) (mMake c (noX m) (bApp f dds)) :=
  makeDS_core hf hd fun σ _ _ _ h => h.noX (E σ)
theorem makeKS_core {c n j : Nat} {m m' : List D → Ans} {f : M (List Arg)} {g : M (List D)} {ta tk : TA} {gV : List V → List V → List V} {k : List Arg → List Arg → List Arg} {E : L2.St → XK} (hf : SimB K ct ms vp W ta f) (hg : SimA K ct ms vp W tk g)
    (hk : ∀ σ R vs zs as bs, ArgsOk K ct σ R vs as → ArgsOk K ct σ R zs bs → ArgsOk K ct σ R (gV vs zs) (k as bs)) (hx : ∀ x vs zs, gV (x :: vs) zs = x :: gV vs zs) (hu : ∀ σ vs H Q, SpM K ct.b [0] m vs H Q (WE W σ) → SpM K ct.b [0] m' vs H Q (E σ)) : SimE K ct ms vp W (tMakeKS (ct.b.adr c) n j (SpM K ct.b [0] m') gV E ta tk) (mMake c m (bKw n j f g k)) := by
  have h : SimB K ct ms vp W (fun σ H Q => ta σ H fun vs H1 => tk σ H1 fun zs H2 => vs.length = n ∧ zs.length = j ∧ Q (gV vs zs) H2) (bKw n j f g k) := fun H0 ρ σ R H ok Q q =>
    hf H0 ρ σ R H ok _ (Po.mono (Po.bind q) fun as ρ1 q vs R1 H1 g1 ok1 r1 =>
      hg H0 ρ1 σ R1 H1 ok1 _ (Po.gr g1 (Po.bind q) fun zs ρ2 q ws R2 H2 g2 ok2 r2 => by
        split at q
        · rename_i hl
          exact ⟨r1.1.trans hl.1, r2.1.trans hl.2, q (gV vs ws) R2 H2 (g1.trans g2) ok2 (hk σ R2 vs ws as _ (r1.mono g2.1) (.of r2))⟩
        · exact q.elim))
  have core := make_core (c := c) (m := m) (S := fun σ vs H Q => SpM K ct.b [0] m' vs H Q (E σ)) (ta := fun σ H Q => ta σ H fun vs H1 => tk σ H1 fun zs H2 => vs.length = n ∧ zs.length = j ∧ Q (gV vs zs) H2) h hu
  have e : tMakeKS (ct.b.adr c) n j (SpM K ct.b [0] m') gV E ta tk = fun σ H Q => (fun σ H Q => ta σ H fun vs H1 => tk σ H1 fun zs H2 => vs.length = n ∧ zs.length = j ∧ Q (gV vs zs) H2) σ H fun vs H1 => ∀ x dx, H1 x = none → H1 dx = none → dx ≠ x →
      SpM K ct.b [0] m' (.ref x :: vs) (upd (upd H1 dx (.own x)) x (.ins (ct.b.adr c) dx [])) (fun v H2 => v = .non ∧ Q (.ref x) H2) (E σ) := by
    funext σ H Q
    simp only [tMakeKS, hx]
  rw [e]
  exact core
theorem sim_makeKS {c n j : Nat} {m : List D → Ans} {f : M (List Arg)} {g : M (List D)} {ta tk : TA} {gV : List V → List V → List V} {k : List Arg → List Arg → List Arg} (hf : SimB K ct ms vp W ta f) (hg : SimA K ct ms vp W tk g)
    (hk : ∀ σ R vs zs as bs, ArgsOk K ct σ R vs as → ArgsOk K ct σ R zs bs → ArgsOk K ct σ R (gV vs zs) (k as bs)) (hx : ∀ x vs zs, gV (x :: vs) zs = x :: gV vs zs) : SimE K ct ms vp W (tMakeKS (ct.b.adr c) n j (SpM K ct.b [0] m) gV (WE W) ta tk) (mMake c m (bKw n j f g k)) :=
  makeKS_core hf hg hk hx fun _ _ _ _ h => h
theorem sim_makeKS0 {c n j : Nat} {m : List D → Ans} {f : M (List Arg)} {g : M (List D)} {ta tk : TA} {gV : List V → List V → List V} {k : List Arg → List Arg → List Arg} {E : L2.St → XK} (hf : SimB K ct ms vp W ta f) (hg : SimA K ct ms vp W tk g)
    (hk : ∀ σ R vs zs as bs, ArgsOk K ct σ R vs as → ArgsOk K ct σ R zs bs → ArgsOk K ct σ R (gV vs zs) (k as bs)) (hx : ∀ x vs zs, gV (x :: vs) zs = x :: gV vs zs) : SimE K ct ms vp W (tMakeKS (ct.b.adr c) n j (SpM K ct.b [0] m) gV E ta tk) (mMake c (noX m) (bKw n j f g k)) :=
  makeKS_core hf hg hk hx fun σ _ _ _ h => h.noX (E σ)
/-! isinstance of the error that is looked at, of two classes -/
theorem sim_isX2 {i c cX : Nat} {r : Bool} {x : Option D} {a : Addr} {od : Option Addr} {C Y1 Y2 : Addr} {vp' : Nat → V} {ms' : List Nat} (hC : C = ct.b.err cX) (hi : i ∈ ms') (hv : vp' i = .ref a) (hk : PySem.W.kitAny K (.ref C) [.ref Y1, .ref Y2] = some r) :
    SimF K (ct.with K c x od) ms' vp' W (tCB (rIsX2 K C a (.ref (ct.b.err c)) od) (tCons (tVar i) (tCons (tTup (tCons (tC (.ref Y1)) (tCons (tC (.ref Y2)) tNil))) tNil))) (mIsX cX r c x) := fun H0 ρ σ R H ok Q q => by
  unfold mIsX at q
  split at q
  · rename_i hc
    obtain ⟨rfl, hx⟩ := hc
    refine ⟨.ref a, by rw [ok.pins i hi, hv], ?_⟩
    refine ⟨show 2 ≤ sizeLine by decide, fun p hp => ?_⟩
    have iv := ok.inv.2
    cases x with
    | none => cases hx
    | some d =>
      obtain ⟨dd, v, e1, e2, r1⟩ := iv
      have xx := Ext.heap (o := .tup [.ref Y1, .ref Y2]) ok.same hp
      have e3 := ok.same _ _ e2
      exact ⟨p, Y1, Y2, r, dd, _, rfl, by rw [hC], e1, by rw [upd_ne (ne_of_none e3 hp)]; exact e3, upd_same, hk, q (.bl r) R _ (ok.gr xx) (ok.ext xx) (.bl r)⟩
  · exact q.elim
/-! ### all -/
def asBl : D → Option Bool
  | .bl i => some i
  | _ => none
theorem bls_of : ∀ {ds : List D} {bs : List Bool}, ds.mapM asBl = some bs → ds = bs.map D.bl
  | [], bs, h => by
    cases h
    rfl
  | d :: ds, bs, h => by
    rw [List.mapM_cons] at h
    obtain ⟨i, h1, h2⟩ := Option.bind_eq_some_iff.mp h
    obtain ⟨is, h3, h4⟩ := Option.bind_eq_some_iff.mp h2
    cases h4
    cases d <;> simp only [asBl] at h1 <;> cases h1
    rw [List.map_cons, ← bls_of h3]
theorem asB_map : ∀ bs : List Bool, (bs.map D.bl).mapM asBl = some bs
  | [] => rfl
  | x :: bs => by
    rw [List.map_cons, List.mapM_cons, asB_map bs]
    rfl
theorem Reps.bls_inv : ∀ {bs : List Bool} {vs : List V}, Reps K ct.b R vs (bs.map D.bl) → vs = bs.map V.bl
  | [], vs, r => r.nil_inv
  | n :: ns, vs, r => by
    obtain ⟨v, ws, rfl, r1, r2⟩ := r.cons_inv
    cases r1.bl_inv
    rw [List.map_cons, ← Reps.bls_inv r2]
def oAll : List D → Option D
  | [.lst ds] => (ds.mapM asBl).map fun bs => .bl (bs.all id)
  | _ => none
theorem oAll_map {bs : List Bool} : oAll [.lst (bs.map D.bl)] = some (.bl (bs.all id)) := by
  rw [oAll, asB_map]
  rfl
theorem so_all : CbF K ct.b (rAll K) oAll := fun R H vs ds s r Q q => by
  match ds, q, r with
  | [.lst es], q, r =>
    obtain ⟨v, rfl, r1⟩ := one r
    obtain ⟨a, us, rfl, h, t⟩ := r1.lst_inv
    simp only [oAll] at q
    cases e : es.mapM asBl with
    | none => rw [e] at q; exact q.elim
    | some bs =>
      rw [e] at q
      have e2 := bls_of e
      subst e2
      cases Reps.bls_inv t
      exact ⟨a, bs, rfl, sql0 (s _ _ h), q _ R H (Ext.refl s) (.bl _)⟩
end
section
variable {ρ : Env}
@[simp] theorem isTp_tup {ds : List D} : isTp (.tup ds) = true := (rfl)
@[simp] theorem isTp_lst {ds : List D} : isTp (.lst ds) = false := (rfl)
@[simp] theorem a_mZip {g : M (List D)} : mZip g ρ = bK (g ρ) fun ds => mO (zipD ds) := a_mB
@[simp] theorem oinOf_oin {c : Nat} {ns : List Str} {ds : List D} : oinOf c (some (some (.oin c ns ds))) = some (ns, ds) := if_pos rfl
@[simp] theorem insOf_oin {c : Nat} {ns : List Str} {ds : List D} : insOf c (some (some (.oin c ns ds))) = some (ns, ds) := if_pos rfl
@[simp] theorem insOf_ins {c : Nat} {ns : List Str} {ds : List D} : insOf c (some (some (.ins c ns ds))) = some (ns, ds) := if_pos rfl
@[simp] theorem isO_ins {c : Nat} {ns : List Str} {ds : List D} : D.isO (.ins c ns ds) = false := (rfl)
@[simp] theorem isO_oin {c : Nat} {ns : List Str} {ds : List D} : D.isO (.oin c ns ds) = true := (rfl)
@[simp] theorem fz_ins {c : Nat} {ns : List Str} {ds : List D} : D.fz (.ins c ns ds) = .ins c ns ds := by simp [D.fz]
@[simp] theorem fz_oin {c : Nat} {ns : List Str} {ds : List D} : D.fz (.oin c ns ds) = .ins c ns (fzs ds) := by simp [D.fz]
@[simp] theorem a_mSetFld {i c : Nat} {f : Str} {g : M D} : mSetFld i c f g ρ = tK (g ρ) fun x => mThen (mGet fun ρ => oinOf c ρ[i]?) fun z => mThen (mO (if 900 < z.1.length then none else some ())) fun _ ρ => .nx (ρ.set i (some (.oin c (putD f x z).1 (putD f x z).2))) := a_mThen
@[simp] theorem putD_nil {f : Str} {x : D} : putD f x ([], []) = ([f], [x]) := (rfl)
@[simp] theorem putD_cons {f n : Str} {x d : D} {ns : List Str} {ds : List D} : putD f x (n :: ns, d :: ds) = if n = f then (n :: ns, x :: ds) else (n :: (putD f x (ns, ds)).1, d :: (putD f x (ns, ds)).2) := by
  by_cases e : n = f
  · subst e
    simp [putD]
  · have e' : ¬ f = n := fun z => e z.symm
    by_cases m : f ∈ ns
    · simp [putD, e, e', m, idx_ne e]
    · simp [putD, e, e', m]
@[simp] theorem fldV_cons {f n : Str} {d : D} {ns : List Str} {ds : List D} : fldV (n :: ns, d :: ds) f = if n = f then (if d.isO = true then none else some d) else fldV (ns, ds) f := by
  by_cases e : n = f
  · subst e
    simp [fldV]
  · have e' : (f == n) = false := beq_eq_false_iff_ne.mpr fun z => e z.symm
    simp [fldV, e, List.lookup_cons, e']
@[simp] theorem a_mFldV {i c : Nat} {f : Str} : mFldV i c f ρ = bK (oK (insOf c ρ[i]?) ρ) fun z => mO (fldV z f) := by rw [mFldV, a_mB, a_mGet]
@[simp] theorem recvD_ins {c : Nat} {m : Str} {ns : List Str} {ds : List D} : recvD c m (.ins c ns ds) = if m ∉ ns then some () else none := by simp [recvD]
@[simp] theorem isIns_ins {c : Nat} {ns : List Str} {ds : List D} : isIns c (.ins c ns ds) = some () := if_pos rfl
@[simp] theorem a_bRecv {c : Nat} {m : Str} {f : M D} {g : M (List Arg)} : bRecv c m f g ρ = bK (f ρ) fun x => mB (mO (recvD c m x)) fun _ => mB g fun as => mP (.inr x :: as) := a_mB
@[simp] theorem a_bRecvO {c : Nat} {f : M D} {g : M (List Arg)} : bRecvO c f g ρ = bK (f ρ) fun x => mB (mO (isIns c x)) fun _ => mB g fun as => mP (.inr x :: as) := a_mB
@[simp] theorem kK_ok {d : D} : kK (.ok .non [d]) ρ = .ok d ρ := (rfl)
@[simp] theorem kK_ex {k : Nat} {x : Option D} {d : D} : kK (.ex k x [d]) ρ = .ex k x ρ := (rfl)
@[simp] theorem a_mkK {c : Nat} {m : List D → Ans} {ds : List D} : mkK c m ds ρ = kK (m (.oin c [] [] :: ds)) ρ := (rfl)
@[simp] theorem a_mMake {c : Nat} {m : List D → Ans} {f : M (List Arg)} : mMake c m f ρ = bK (f ρ) fun as => mB (mGet fun ρ => if brw 1 as = [] then argsD ρ as else none) fun ds => mkK c m ds := a_mB
end
end Y

namespace Y
open PySem PySem.Spec PyProof.Rows L2
section
variable {K : PySem.W.Frag} {ct : CT} {ms : List Nat} {W : WX} {H0 R R' H H' : Hp} {vp : Nat → V} {ρ : Env} {σ : L2.St}
/-! ### a call that only looks: what it is handed stays one's own, for its answer is no reference and all that stands is kept -/
def scalD : D → Bool
  | .int _ => true
  | .bl _ => true
  | .str _ => true
  | .non => true
  | _ => false
theorem scalD_isO {d : D} (h : scalD d = true) : d.isO = false := by cases d <;> first | rfl | cases h
theorem Rep.scalD_any {b : CTB} {R R' : Hp} {v : V} {d : D} (r : Rep K b R v d) (h : scalD d = true) : Rep K b R' v d := by
  cases d <;> simp only [scalD] at h <;> try (cases h; done)
  · cases r.non_inv; exact .non
  · cases r.bl_inv; exact .bl _
  · cases r.int_inv; exact .int _
  · cases r.str_inv; exact .str _
theorem Ok.later (ok : Ok K ct H0 ms vp ρ σ R H) (e : Same H H') : Ok K ct H0 ms vp ρ σ R H' :=
  ok.ext ⟨Same.refl _, ok.same.trans e, e, fun _ h => .inl h⟩
/-- the whole heap as what is never written again -/
theorem Ok.look {as : List Arg} {vs : List V} {ds : List D} (ok : Ok K ct H0 ms vp ρ σ R H) (ha : ArgsOk K ct σ R vs as) (hd : argsD ρ as = some ds) : Ok K ct.b.triv H [] (fun _ => .non) ((ds.map D.fz).map some) (vs.map some) H H := by
  obtain ⟨l, f⟩ := argsD_at hd
  obtain ⟨s, _, _, _, _, F, f1, _, _⟩ := id ok
  refine ⟨Same.refl _, Same.refl _, trivial, by simp [ha.1, l], (fun i hi => nomatch hi), fun _ _ => False, fun i d h => ?_, fun _ _ _ _ h => h.elim, fun _ _ h => h.elim⟩
  rw [List.getElem?_map, List.getElem?_map] at h
  obtain ⟨d1, h1, h2⟩ := Option.map_eq_some_iff.mp h
  obtain ⟨d0, h3, h4⟩ := Option.map_eq_some_iff.mp h1
  cases h2
  subst h4
  obtain ⟨a, q1, q2⟩ := f i d0 h3
  have il := (List.getElem?_eq_some_iff.mp h3).1
  obtain ⟨v, hv⟩ : ∃ v, vs[i]? = some v := ⟨_, List.getElem?_eq_getElem (by rw [ha.1, ← l]; exact il)⟩
  refine ⟨v, by rw [List.getElem?_map, hv]; rfl, .fz ?_⟩
  have ak := ha.2 i v a hv q1
  cases a with
  | inl j =>
    have q3 : (ρ[j]?).join = some d0 := q2
    have q4 : ρ[j]? = some (some d0) := by
      cases e : ρ[j]? with
      | none => rw [e] at q3; cases q3
      | some x => rw [e] at q3; cases x with
        | none => cases q3
        | some y => cases q3; rfl
    obtain ⟨u, h5, h6⟩ := f1 j d0 q4
    have h7 : σ[j]? = some (some v) := ak
    cases h5.symm.trans h7
    exact h6.froze s fun _ _ => rfl
  | inr d =>
    cases q2
    have r : Rep K ct.b R v _ := ak
    rw [r.fz]
    exact r.mono s
def mPeek (m : List D → Ans) (f : M (List Arg)) : M D := mB f fun as => mB (mGet fun ρ => argsD ρ as) fun ds ρ => match m (ds.map D.fz) with
  | .ok d [] => if scalD d = true then .ok d ρ else .st
  | _ => .st
theorem peek_core {m : List D → Ans} {f : M (List Arg)} {ta : TA} {S : L2.St → List V → Hp → VK → Prop} (hf : SimB K ct ms vp W ta f)
    (hu : ∀ σ vs H Q, (∀ E, SpM K ct.b [] m vs H Q E) → S σ vs H Q) : SimF K ct ms vp W (fun σ H Q => ta σ H fun vs H1 => S σ vs H1 Q) (mPeek m f) := fun H0 ρ σ R H ok Q q => by
  refine hf H0 ρ σ R H ok _ (Po.mono (Po.bind q) fun as ρ1 q vs R1 H1 g1 ok1 r1 => hu σ vs H1 Q fun E => ?_)
  obtain ⟨ds, e, q⟩ := Po.get (Po.bind q)
  refine ⟨H1, H1, ds.map D.fz, ok1.look r1 e, ?_⟩
  cases em : m (ds.map D.fz) with
  | st => rw [em] at q; exact q.elim
  | ex c x w => rw [em] at q; exact q.elim
  | ok d w =>
    rw [em] at q
    cases w with
    | cons a b => exact q.elim
    | nil =>
      dsimp only at q
      by_cases hs : scalD d = true
      · rw [if_pos hs] at q
        intro v R2 H2 g2 _ ok2
        obtain ⟨F, f1, _⟩ := ok2.own
        obtain ⟨u, h1, h2⟩ := f1 0 d rfl
        have h3 : some (some v) = some (some u) := h1
        cases h3
        exact q v R1 H2 g1 (ok1.later ok2.keep) ((h2.rep (scalD_isO hs)).scalD_any hs)
      · rw [if_neg hs] at q
        exact q.elim
theorem sim_peek {m : List D → Ans} {f : M (List Arg)} {ta : TA} {E : XK} (hf : SimB K ct ms vp W ta f) : SimF K ct ms vp W (tCall (SpM K ct.b [] m) [] E ta) (mPeek m f) :=
  peek_core hf fun σ vs H Q h => by
    show SpM K ct.b [] m (vs ++ []) H Q E
    rw [List.append_nil]
    exact h E
end
@[simp] theorem scalD_int {i : Int} : scalD (.int i) = true := (rfl)
@[simp] theorem scalD_bl {i : Bool} : scalD (.bl i) = true := (rfl)
@[simp] theorem scalD_str {i : Str} : scalD (.str i) = true := (rfl)
@[simp] theorem scalD_non : scalD .non = true := (rfl)
def pkK (m : List D → Ans) (ds : List D) : M D := fun ρ => match m (ds.map D.fz) with
  | .ok d [] => if scalD d = true then .ok d ρ else .st
  | _ => .st
@[simp] theorem a_mPeek {m : List D → Ans} {f : M (List Arg)} {ρ : Env} : mPeek m f ρ = bK (f ρ) fun as => mB (mGet fun ρ => argsD ρ as) fun ds => pkK m ds := a_mB
theorem pkK_ok {m : List D → Ans} {ds : List D} {d : D} {ρ : Env} (h : m (ds.map D.fz) = .ok d []) (hs : scalD d = true) : pkK m ds ρ = .ok d ρ := by
  unfold pkK
  rw [h]
  exact if_pos hs
end Y

namespace Y
open PySem PySem.Spec PyProof.Rows L2
section
variable {K : PySem.W.Frag} {ct : CT} {ms : List Nat} {W : WX} {H0 R R' H H' : Hp} {vp : Nat → V} {ρ : Env} {σ : L2.St}
/-! ### lists of one's own within a list of one's own -/
/-- [e], e of one's own too -/
theorem Ok.wrap {v : V} {d : D} {p : Addr} (ok : Ok K ct H0 ms vp (ρ ++ [some d]) (σ ++ [some v]) R H) (l : ρ.length = σ.length) (hm : ∀ i ∈ ms, i < σ.length) (hp : H p = none) : Ok K ct H0 ms vp (ρ ++ [some (.ols [d])]) (σ ++ [some (.ref p)]) R (upd H p (.lst [v])) := by
  obtain ⟨s, k, iv, l2, pi, F, f1, f2, f3⟩ := ok
  have h0 : H0 p = none := k.free hp
  have fr : R p = none := s.free hp
  have np : ∀ i b, F i b → b ≠ p := fun i b g z => (f3 i b g).2.1 (z ▸ hp)
  have ex := Ext.heap (o := .lst [v]) s hp
  refine ⟨ex.s, k.trans ex.h, iv, by simpa using l2, fun i hi => ?_, fun i b => F i b ∨ (i = ρ.length ∧ b = p), fun i e h => ?_, fun i j b ne x y => ?_, fun i b h => ?_⟩
  · have q := pi i hi
    rw [List.getElem?_append_left (hm i hi)] at q ⊢
    exact q
  · by_cases e1 : i < ρ.length
    · rw [List.getElem?_append_left e1] at h
      obtain ⟨u, a, w⟩ := f1 i e (by rw [List.getElem?_append_left e1]; exact h)
      rw [List.getElem?_append_left (by omega)] at a
      exact ⟨u, by rw [List.getElem?_append_left (by omega)]; exact a, (w.monoH fun b o g q => by rw [upd_ne (np i b g)]; exact q).monoF fun b g => .inl g⟩
    · have e2 := (List.getElem?_eq_some_iff.mp h).1
      have e3 : i = ρ.length := by simp at e2; omega
      subst e3
      simp at h
      subst h
      obtain ⟨u, a, w⟩ := f1 ρ.length d (by simp)
      have eu : u = v := by rw [l] at a; simpa using a.symm
      subst eu
      refine ⟨.ref p, by rw [l]; simp, .ols (fun n b => n = 0 ∧ F ρ.length b) upd_same (.inr ⟨rfl, rfl⟩) rfl (fun n x y q1 q2 => ?_) (fun n b ⟨_, g⟩ => ⟨.inl g, np _ b g⟩) (fun n m b ne ⟨a, _⟩ ⟨c, _⟩ => ne (a.trans c.symm))⟩
      cases n with
      | zero =>
        cases (show u = x by simpa using q1)
        cases (show d = y by simpa using q2)
        exact (w.monoH fun b o g q => by rw [upd_ne (np _ b g)]; exact q).monoF fun b g => ⟨rfl, g⟩
      | succ n => simp at q1
  · rcases x with x | ⟨x1, x2⟩ <;> rcases y with y | ⟨y1, y2⟩
    · exact f2 i j b ne x y
    · exact np i b x y2
    · exact np j b y x2
    · exact ne (x1.trans y1.symm)
  · rcases h with h | ⟨_, h⟩
    · obtain ⟨a, b', c⟩ := f3 i b h
      exact ⟨a, by rw [upd_ne (np i b h)]; exact b', c⟩
    · subst h
      exact ⟨fr, by rw [upd_same]; exact Option.some_ne_none _, h0⟩
def mLst1 (f : M D) : M D := mB f fun d => mP (.ols [d])
theorem sim_lst1 {te : TE} {f : M D} (hf : SimE K ct ms vp W te f) : SimE K ct ms vp W (tLst (tCons te tNil)) (mLst1 f) := fun H0 ρ σ R H ok Q q =>
  hf H0 ρ σ R H ok _ (Po.mono (Po.bind q) fun d ρ1 q v R1 H1 g1 ok1 l =>
    ⟨show 1 ≤ sizeLine by decide, fun p hp => q (.ref p) R1 _ g1 (ok1.wrap l ok.mslt hp) l⟩)
/-- a slot's content goes out of the def -/
theorem Ok.move (ok : Ok K ct H0 ms vp ρ σ R H) {i : Nat} {d : D} (h : ρ[i]? = some (some d)) : ∃ v, σ[i]? = some (some v) ∧ Ok K ct H0 ms vp (ρ.set i none ++ [some d]) (σ ++ [some v]) R H := by
  obtain ⟨s, k, iv, l, pi, F, f1, f2, f3⟩ := ok
  obtain ⟨v, a, w⟩ := f1 i d h
  have hi := (List.getElem?_eq_some_iff.mp h).1
  refine ⟨v, a, s, k, iv, by simp [l], fun j hj => ?_, fun j b => (j = ρ.length ∧ F i b) ∨ (j ≠ i ∧ j < ρ.length ∧ F j b), fun j e q => ?_, fun j j' b ne x y => ?_, fun j b q => ?_⟩
  · have q := pi j hj
    rw [List.getElem?_append_left (List.getElem?_eq_some_iff.mp q).1]
    exact q
  · by_cases e1 : j < ρ.length
    · rw [List.getElem?_append_left (by simpa using e1)] at q
      by_cases e2 : j = i
      · subst e2
        rw [List.getElem?_set_self hi] at q
        cases q
      · rw [List.getElem?_set_ne (Ne.symm e2)] at q
        obtain ⟨u, x, y⟩ := f1 j e q
        exact ⟨u, by rw [List.getElem?_append_left (by omega)]; exact x, y.monoF fun b g => .inr ⟨e2, e1, g⟩⟩
    · have e2 := (List.getElem?_eq_some_iff.mp q).1
      have e3 : j = ρ.length := by simp at e2; omega
      subst e3
      rw [List.getElem?_append_right (by simp)] at q
      simp at q
      subst q
      exact ⟨v, by rw [List.getElem?_append_right (by omega), l]; simp, w.monoF fun b g => .inl ⟨rfl, g⟩⟩
  · rcases x with ⟨x1, x2⟩ | ⟨x1, x2, x3⟩ <;> rcases y with ⟨y1, y2⟩ | ⟨y1, y2, y3⟩
    · exact ne (x1.trans y1.symm)
    · exact f2 i j' b (Ne.symm y1) x2 y3
    · exact f2 i j b (Ne.symm x1) y2 x3
    · exact f2 j j' b ne x3 y3
  · rcases q with ⟨_, q⟩ | ⟨_, _, q⟩ <;> exact f3 _ b q
def mMove (i : Nat) : M D := fun ρ => match ρ[i]? with
  | some (some d) => .ok d (ρ.set i none)
  | _ => .st
theorem sim_move {i : Nat} : SimE K ct ms vp W (tVar i) (mMove i) := fun H0 ρ σ R H ok Q q => by
  unfold mMove at q
  split at q
  · rename_i d hd
    obtain ⟨v, a, ok'⟩ := ok.move hd
    exact ⟨v, a, q v R H (Gr.refl _ _) ok' (by simpa using ok.len.symm)⟩
  · exact q.elim
/-- a list of one's own within one -/
theorem Ok.inner (ok : Ok K ct H0 ms vp ρ σ R H) {i n : Nat} {ds es : List D} (h : ρ[i]? = some (some (.ols ds))) (hn : ds[n]? = some (.ols es)) :
    ∃ a vs c ws, σ[i]? = some (some (.ref a)) ∧ H a = some (.lst vs) ∧ vs.length = ds.length ∧ vs[n]? = some (.ref c) ∧ H c = some (.lst ws) ∧ ws.length = es.length ∧
      ∀ (w : V) (e : D), Rep K ct.b R w e → Ok K ct H0 ms vp (ρ.set i (some (.ols (ds.set n (.ols (es ++ [e])))))) σ R (upd H c (.lst (ws ++ [w]))) := by
  obtain ⟨s, k, iv, l, p, F, f1, f2, f3⟩ := ok
  obtain ⟨v, hv, w0⟩ := f1 i _ h
  cases w0 with
  | fz w0 => cases w0
  | @ols _ a vs _ G ha hF hl hc hG hd =>
    have nl : n < ds.length := (List.getElem?_eq_some_iff.mp hn).1
    obtain ⟨u, hu⟩ : ∃ u, vs[n]? = some u := ⟨_, List.getElem?_eq_getElem (by omega)⟩
    have w1 := hc n u _ hu hn
    cases w1 with
    | fz w1 => cases w1
    | @ols _ c ws _ G2 hc1 hF2 hl2 hc2 hG2 hd2 =>
      have ca : c ≠ a := (hG n c hF2).2
      have hFc : F i c := (hG n c hF2).1
      obtain ⟨rc, _, h0c⟩ := f3 i c hFc
      refine ⟨a, vs, c, ws, hv, ha, hl, hu, hc1, hl2, fun w e r => ⟨fun b o q => ?_, fun b o q => ?_, iv, by simpa using l, p, F, fun j d q => ?_, f2, fun j b q => ?_⟩⟩
      · rw [upd_ne (ne_of_none q rc)]; exact s b o q
      · rw [upd_ne (ne_of_none q h0c)]; exact k b o q
      · by_cases z : j = i
        · subst z
          have hj : j < ρ.length := (List.getElem?_eq_some_iff.mp h).1
          rw [List.getElem?_set_self hj] at q
          cases q
          refine ⟨.ref a, hv, .ols G (by rw [upd_ne (Ne.symm ca)]; exact ha) hF (by simpa using hl) (fun m x y q1 q2 => ?_) hG hd⟩
          by_cases z : m = n
          · subst z
            rw [hu] at q1
            cases q1
            rw [List.getElem?_set_self nl] at q2
            cases q2
            refine .ols (fun t b => t < ws.length ∧ G2 t b) upd_same hF2 (by simp [hl2]) (fun t x y q1 q2 => ?_) (fun t b g => hG2 t b g.2) (fun t t' b ne x y => hd2 t t' b ne x.2 y.2)
            by_cases z : t < ws.length
            · rw [List.getElem?_append_left z] at q1
              rw [List.getElem?_append_left (by omega)] at q2
              exact ((hc2 t x y q1 q2).monoH fun b o g q => by rw [upd_ne (hG2 t b g).2]; exact q).monoF fun b g => ⟨z, g⟩
            · have z2 := (List.getElem?_eq_some_iff.mp q1).1
              have z3 : t = ws.length := by simp at z2; omega
              subst z3
              rw [List.getElem?_append_right (Nat.le_refl _)] at q1
              rw [List.getElem?_append_right (by omega)] at q2
              simp at q1
              rw [hl2] at q2
              simp at q2
              subst q1 q2
              exact .fz r
          · rw [List.getElem?_set_ne (Ne.symm z)] at q2
            refine (hc m x y q1 q2).monoH fun b o g q => ?_
            rw [upd_ne fun e => hd m n c z (by rw [← e]; exact g) hF2]
            exact q
        · rw [List.getElem?_set_ne (Ne.symm z)] at q
          obtain ⟨u, x, y⟩ := f1 j d q
          refine ⟨u, x, y.monoH fun b o g q' => ?_⟩
          rw [upd_ne fun e => f2 j i c z (by rw [← e]; exact g) hFc]
          exact q'
      · obtain ⟨x, y, z⟩ := f3 j b q
        refine ⟨x, ?_, z⟩
        by_cases e2 : b = c
        · rw [e2, upd_same]; exact Option.some_ne_none _
        · rw [upd_ne e2]; exact y
def innerOf (n : Nat) (x : Option (Option D)) : Option (List D × List D) := match olsOf x with
  | some ds => match ds[n]? with
    | some (.ols es) => some (ds, es)
    | _ => none
  | none => none
theorem innerOf_some {n : Nat} {x : Option (Option D)} {z : List D × List D} (h : innerOf n x = some z) : x = some (some (.ols z.1)) ∧ z.1[n]? = some (.ols z.2) := by
  unfold innerOf at h
  split at h
  · rename_i ds e
    split at h
    · rename_i es e2
      cases h
      exact ⟨olsOf_some e, e2⟩
    · cases h
  · cases h
/-- name[n].append(constant) -/
def mAppIx (i n : Nat) (e : D) : M D := mB (mGet fun ρ => innerOf n ρ[i]?) fun z => mB (mO (szok z.2.length)) fun _ => mB (mPut i (.ols (z.1.set n (.ols (z.2 ++ [e]))))) fun _ => mP .non
theorem sim_appIx {i n : Nat} {w : V} {e : D} (hr : ∀ R, Rep K ct.b R w e) : SimF K ct ms vp W (tBM K "list" rAppend (tOp (rIxA K) (tVar i) (tC (.int (n : Int)))) (tCons (tC w) tNil)) (mAppIx i n e) := fun H0 ρ σ R H ok Q q => by
  obtain ⟨⟨ds, es⟩, hz, q⟩ := Po.get (Po.bind q)
  obtain ⟨h1, h2⟩ := innerOf_some hz
  obtain ⟨a, vs, c, ws, x1, x2, x3, x4, x5, x6, put⟩ := ok.inner h1 h2
  obtain ⟨u, z, q⟩ := Po.opt (Po.bind q)
  have q := Po.put q
  have at_ : atI vs (n : Int) = some (.ref c) := by
    unfold atI ixN
    have := (List.getElem?_eq_some_iff.mp x4).1
    rw [if_pos (by omega), if_pos (by omega)]
    simpa using x4
  refine ⟨.ref a, x1, .inl ⟨a, vs, (n : Int), .ref c, rfl, rfl, sql0 x2, at_, .inl ⟨rfl, _, .inl (.inl x5)⟩, ?_⟩⟩
  exact ⟨c, ws, w, rfl, rfl, x5, by rw [x6]; exact szok_lt z, q .non R _ (Gr.refl _ _) (put w e (hr R)) .non⟩
theorem sim_appIxT {i n : Nat} : SimF K ct ms vp W (tBM K "list" rAppend (tOp (rIxA K) (tVar i) (tC (.int (n : Int)))) (tCons (tTup tNil) tNil)) (mAppIx i n (.tup [])) := fun H0 ρ σ R H ok Q q => by
  obtain ⟨⟨ds, es⟩, hz, q⟩ := Po.get (Po.bind q)
  obtain ⟨h1, h2⟩ := innerOf_some hz
  obtain ⟨a, vs, c, ws, x1, x2, x3, x4, x5, x6, _⟩ := ok.inner h1 h2
  obtain ⟨u, z, q⟩ := Po.opt (Po.bind q)
  have q := Po.put q
  have at_ : atI vs (n : Int) = some (.ref c) := by
    unfold atI ixN
    have := (List.getElem?_eq_some_iff.mp x4).1
    rw [if_pos (by omega), if_pos (by omega)]
    simpa using x4
  refine ⟨.ref a, x1, .inl ⟨a, vs, (n : Int), .ref c, rfl, rfl, sql0 x2, at_, .inl ⟨rfl, _, .inl (.inl x5)⟩, ?_⟩⟩
  refine ⟨Nat.zero_le _, fun p hp => ?_⟩
  have ex := Ext.new (o := .tup []) ok.same hp
  have ok2 := ok.ext ex
  obtain ⟨a', vs', c', ws', y1, y2, _, y4, y5, y6, put⟩ := ok2.inner h1 h2
  cases x1.symm.trans y1
  have e1 := ex.h _ _ x2
  cases e1.symm.trans y2
  cases x4.symm.trans y4
  have e2 := ex.h _ _ x5
  cases e2.symm.trans y5
  exact ⟨c, ws, .ref p, rfl, rfl, y5, by rw [x6]; exact szok_lt z, q .non _ _ (ok.gr ex) (put (.ref p) (.tup []) (.tup (.inl (.inl upd_same)) rfl (fun i v d a _ => by simp at a))) .non⟩
end
end Y

namespace Y
open PySem PySem.Spec PyProof.Rows L2
section
variable {K : PySem.W.Frag} {ct : CT} {ms : List Nat} {W : WX} {H0 R R' H H' : Hp} {vp : Nat → V} {ρ : Env} {σ : L2.St}
/-! ### classes with slots: fields stored, fields read -/
theorem idx_inj {f g : Str} {l : List Str} (hf : f ∈ l) (hg : g ∈ l) (h : l.idxOf f = l.idxOf g) : f = g := by
  have h1 : l[l.idxOf f]? = some f := by
    rw [List.getElem?_eq_getElem (List.idxOf_lt_length_of_mem hf), List.getElem_idxOf]
  have h2 : l[l.idxOf g]? = some g := by
    rw [List.getElem?_eq_getElem (List.idxOf_lt_length_of_mem hg), List.getElem_idxOf]
  rw [h, h2] at h1
  exact (Option.some.inj h1).symm
theorem Ok.islt (ok : Ok K ct H0 ms vp ρ σ R H) {i c : Nat} {ns : List Str} {ds : List D} (hs : ct.b.slt c = true) (h : ρ[i]? = some (some (.oin c ns ds))) :
    ∃ a dx ws, σ[i]? = some (some (.ref a)) ∧ SlX.Slt H a (ct.b.adr c) dx ws ∧ ∀ (f : Str) (v : V) (d : D), f ∉ ns → f ∈ ct.b.sls c → Rep K ct.b R v d →
      Ok K ct H0 ms vp (ρ.set i (some (.oin c (ns ++ [f]) (ds ++ [d])))) σ R (SlX.slH H a (ct.b.adr c) dx (SlX.putS ((ct.b.sls c).idxOf f) v ws)) := by
  obtain ⟨s, kp, iv, l, p, F, f1, f2, f3⟩ := ok
  obtain ⟨u, hu, w⟩ := f1 i _ h
  cases w with
  | fz w => cases w
  | oin G hs' => rw [hs] at hs'; cases hs'
  | @osl _ a dx _ _ ws vs _ hs' ha hF hX ne hk hw hn r =>
    refine ⟨a, dx, ws, hu, ha, fun f v d hf hm rv => ?_⟩
    obtain ⟨ra, ha0, h0a⟩ := f3 i a hF
    obtain ⟨rx, hx0, h0x⟩ := f3 i dx hX
    refine ⟨fun b o q => ?_, fun b o q => ?_, iv, by simpa using l, p, F, fun j d' q => ?_, f2, fun j b q => ?_⟩
    · rw [SlX.slH_ne (ne_of_none q ra) (ne_of_none q rx)]; exact s b o q
    · rw [SlX.slH_ne (ne_of_none q h0a) (ne_of_none q h0x)]; exact kp b o q
    · by_cases z : j = i
      · subst z
        have hj : j < ρ.length := (List.getElem?_eq_some_iff.mp h).1
        rw [List.getElem?_set_self hj] at q
        cases q
        refine ⟨.ref a, hu, .osl (vs := vs ++ [v]) hs (SlX.slH_slt ne) hF hX ne (fun g hg => ?_) (fun k g w' e1 e2 => ?_) (by simp [hn]) (r.snoc rv)⟩
        · rcases List.mem_append.mp hg with hg | hg
          · exact hk g hg
          · rw [List.mem_singleton.mp hg]; exact hm
        · by_cases hkn : k < ns.length
          · rw [List.getElem?_append_left hkn] at e1
            rw [List.getElem?_append_left (by omega)] at e2
            have hg := List.mem_of_getElem? e1
            have ng : (ct.b.sls c).idxOf g ≠ (ct.b.sls c).idxOf f := fun e => hf (by rw [← idx_inj (hk g hg) hm e]; exact hg)
            exact (SlX.putS_ne ng).mpr (hw k g w' e1 e2)
          · have hke : k = ns.length := by
              have := (List.getElem?_eq_some_iff.mp e1).1
              simp at this
              omega
            subst hke
            have z1 : f = g := by simpa using e1
            have z2 : v = w' := by rw [hn] at e2; simpa using e2
            subst z1 z2
            exact SlX.putS_get _ _ _
      · rw [List.getElem?_set_ne (Ne.symm z)] at q
        obtain ⟨u', x, y⟩ := f1 j d' q
        refine ⟨u', x, y.monoH fun b o g q' => ?_⟩
        rw [SlX.slH_ne (fun e => f2 j i b z g (by rw [e]; exact hF)) fun e => f2 j i b z g (by rw [e]; exact hX)]
        exact q'
    · obtain ⟨x, y, z⟩ := f3 j b q
      refine ⟨x, ?_, z⟩
      by_cases e : b = a
      · rw [e]; unfold SlX.slH; rw [upd_same]; exact Option.some_ne_none _
      · by_cases e2 : b = dx
        · rw [e2]; unfold SlX.slH; rw [upd_ne ne, upd_same]; exact Option.some_ne_none _
        · rw [SlX.slH_ne e e2]; exact y
def mSetSl (i c : Nat) (f : Str) (g : M D) : Stm := mThen g fun x => mThen (mGet fun ρ => oinOf c ρ[i]?) fun z => mThen (mO (if f ∈ z.1 then none else some ())) fun _ ρ => .nx (ρ.set i (some (.oin c (z.1 ++ [f]) (z.2 ++ [x]))))
theorem sim_setSl {i c : Nat} {f : Str} {te : TE} {g : M D} {p : Addr} (hs : ct.b.slt c = true) (hg : SimF K ct ms vp W te g) (hc : SlX.SCls K (ct.b.adr c)) (hm : f ∈ ct.b.sls c) (ht : SlX.Slot1 K (ct.b.adr c) f p ((ct.b.sls c).idxOf f)) : SimS K ct ms vp W (SlX.sSl K (tVar i) te f) (mSetSl i c f g) := fun H0 ρ σ R H ok D' q =>
  hg H0 ρ σ R H ok _ (Po.mono (PoS.bind q) fun x ρ1 q v R1 H1 g1 ok1 r1 => by
    obtain ⟨⟨ns, ds⟩, e0, q⟩ := PoS.get q
    obtain ⟨u, e1, q⟩ := PoS.opt q
    obtain ⟨a, dx, ws, x0, y, put⟩ := ok1.islt hs (oinOf_some e0)
    dsimp only at e1 q
    split at e1
    · cases e1
    · rename_i hf
      exact ⟨.ref a, x0, a, _, dx, p, ws, _, rfl, y, hc, ht, q σ R1 _ g1 (put f v x hf hm r1)⟩)
/-- a field of what is never written again -/
def fldD (c : Nat) (f : Str) : D → Option D
  | .ins k ns ds => if k = c then fldV (ns, ds) f else none
  | _ => none
theorem fldD_some {c : Nat} {f : Str} {x d : D} (h : fldD c f x = some d) : ∃ ns ds, x = .ins c ns ds ∧ fldV (ns, ds) f = some d := by
  cases x <;> simp only [fldD] at h <;> try (cases h; done)
  split at h
  · rename_i hk
    subst hk
    exact ⟨_, _, rfl, h⟩
  · cases h
def mFld (c : Nat) (f : Str) (g : M D) : M D := mB g fun d => mO (fldD c f d)
theorem sim_fldD {c : Nat} {f : Str} {te : TE} {g : M D} (hs : ct.b.slt c = false) (hc : Cls K (ct.b.adr c)) (hn : NoAttr K (ct.b.adr c) f) (hg : SimF K ct ms vp W te g) : SimF K ct ms vp W (tFld K te f) (mFld c f g) := fun H0 ρ σ R H ok Q q =>
  hg H0 ρ σ R H ok _ (Po.mono (Po.bind q) fun x ρ1 q v R1 H1 g1 ok1 r1 => by
    obtain ⟨d, e1, q2⟩ := Po.opt q
    obtain ⟨ns, ds, rfl, e2⟩ := fldD_some e1
    obtain ⟨a, dx, vs, rfl, h, hn', t⟩ := r1.ins_inv hs
    obtain ⟨e3, o⟩ := fldV_some e2
    obtain ⟨k, w, _, h2, h3, h4⟩ := zip_look t.1 e3
    exact ⟨a, _, dx, _, w, rfl, ok1.same _ _ h, hc, hn, h4, q2 w R1 H1 g1 ok1 (t.2 k w d h2 h3)⟩)
theorem sim_fldS {c : Nat} {f : Str} {te : TE} {g : M D} {p : Addr} (hs : ct.b.slt c = true) (hc : SlX.SCls K (ct.b.adr c)) (ht : SlX.Slot1 K (ct.b.adr c) f p ((ct.b.sls c).idxOf f)) (hg : SimF K ct ms vp W te g) : SimF K ct ms vp W (SlX.tSl K te f) (mFld c f g) := fun H0 ρ σ R H ok Q q =>
  hg H0 ρ σ R H ok _ (Po.mono (Po.bind q) fun x ρ1 q v R1 H1 g1 ok1 r1 => by
    obtain ⟨d, e1, q2⟩ := Po.opt q
    obtain ⟨ns, ds, rfl, e2⟩ := fldD_some e1
    obtain ⟨e3, o⟩ := fldV_some e2
    cases r1 with
    | ins hs' => rw [hs] at hs'; cases hs'
    | @slt a dx _ _ ws vs _ hs' h hw hn hl hcc =>
      obtain ⟨k, w, h1, h2, h3, _⟩ := zip_look hl e3
      exact ⟨a, _, dx, p, ws, _, w, rfl, Slt_mono h ok1.same, hc, ht, hw k f w h1 h2, q2 w R1 H1 g1 ok1 (hcc k w d h2 h3)⟩)
/-! ### instances as receivers -/
theorem InsH.mono {a C : Addr} (h : InsH H a C) (e : Same H H') : InsH H' a C := by
  rcases h with ⟨dx, vs, h⟩ | ⟨dx, fs, h⟩
  · exact .inl ⟨dx, vs, Slt_mono h e⟩
  · exact .inr ⟨dx, fs, e _ _ h⟩
theorem Rep.insH {b : CTB} {v : V} {c : Nat} {ns : List Str} {ds : List D} (h : Rep K b R v (.ins c ns ds)) : ∃ a, v = .ref a ∧ InsH R a (b.adr c) := by
  cases h with
  | ins _ h => exact ⟨_, rfl, .inr ⟨_, _, h⟩⟩
  | slt _ h => exact ⟨_, rfl, .inl ⟨_, _, h⟩⟩
theorem isIns_some {c : Nat} {d : D} {u : Unit} (h : isIns c d = some u) : ∃ ns ds, d = .ins c ns ds := by
  cases d <;> simp only [isIns] at h <;> try (cases h; done)
  split at h
  · rename_i hk
    exact ⟨_, _, by rw [hk]⟩
  · cases h
def bRecv1 (c : Nat) (f : M D) : M (List Arg) := mB f fun x => mB (mO (isIns c x)) fun _ => mP [.inr x]
theorem sim_recv1 {c : Nat} {ta : TE} {f : M D} (hf : SimF K ct ms vp W ta f) : SimB K ct ms vp W (tRecv1 (ct.b.adr c) ta) (bRecv1 c f) := fun H0 ρ σ R H ok Q q =>
  hf H0 ρ σ R H ok _ (Po.mono (Po.bind q) fun d ρ1 q v R1 H1 g1 ok1 r1 => by
    obtain ⟨u, e, q⟩ := Po.opt (Po.bind q)
    obtain ⟨ns, ds, rfl⟩ := isIns_some e
    obtain ⟨a, rfl, h⟩ := r1.insH
    exact ⟨a, rfl, h.mono ok1.same, q _ R1 H1 g1 ok1 (.cons r1 ⟨rfl, fun k v a x _ => by simp at x⟩)⟩)
theorem sim_propX {m : List D → Ans} {c : Nat} {f : M D} {ta : TE} {E : XK} (hf : SimF K ct ms vp W ta f) : SimE K ct ms vp W (tPropX (ct.b.adr c) (SpM K ct.b [] m) E ta) (mCall [] (noX m) (bRecv1 c f)) :=
  call_core (S := fun σ vs H Q => SpM K ct.b [] m vs H Q E) (sim_recv1 hf) fun σ vs H Q h => h.noX E
/-- the receiver with slots, then the arguments -/
def tRecvS (C : Addr) (ta : TE) (t : TA) : TA := fun σ H Q => ta σ H fun x H1 => ∃ a dx vs, x = .ref a ∧ SlX.Slt H1 a C dx vs ∧ t σ H1 fun ws H2 => Q (x :: ws) H2
theorem sim_recvS {c : Nat} {ta : TE} {t : TA} {f : M D} {g : M (List Arg)} (hs : ct.b.slt c = true) (hf : SimF K ct ms vp W ta f) (hg : SimB K ct ms vp W t g) : SimB K ct ms vp W (tRecvS (ct.b.adr c) ta t) (bRecvO c f g) := fun H0 ρ σ R H ok Q q =>
  hf H0 ρ σ R H ok _ (Po.mono (Po.bind q) fun d ρ1 q v R1 H1 g1 ok1 r1 => by
    obtain ⟨u, e, q⟩ := Po.opt (Po.bind q)
    obtain ⟨ns, ds, rfl⟩ := isIns_some e
    have r0 := r1
    cases r1 with
    | ins hs' => rw [hs] at hs'; cases hs'
    | @slt a dx _ _ ws vs _ hs' h hw hn hl hcc =>
      exact ⟨a, dx, ws, rfl, Slt_mono h ok1.same, hg H0 ρ1 σ R1 H1 ok1 _ (Po.gr g1 (Po.bind q) fun as ρ2 q us R2 H2 g2 ok2 r2 => q _ R2 H2 (g1.trans g2) ok2 (.cons (r0.mono g2.1) r2))⟩)
theorem sim_methS {ms' : List Nat} {m : List D → Ans} {c : Nat} {f : M D} {g : M (List Arg)} {ta : TE} {t : TA} (hs : ct.b.slt c = true) (hf : SimF K ct ms vp W ta f) (hg : SimB K ct ms vp W t g) : SimE K ct ms vp W (tMethS (ct.b.adr c) (SpM K ct.b ms' m) (WE W) ta t) (mCall ms' m (bRecvO c f g)) :=
  call_core (ta := tRecvS (ct.b.adr c) ta t) (sim_recvS hs hf hg) fun σ vs H Q h => h
theorem sim_methS0 {ms' : List Nat} {m : List D → Ans} {c : Nat} {f : M D} {g : M (List Arg)} {ta : TE} {t : TA} {E : L2.St → XK} (hs : ct.b.slt c = true) (hf : SimF K ct ms vp W ta f) (hg : SimB K ct ms vp W t g) : SimE K ct ms vp W (tMethS (ct.b.adr c) (SpM K ct.b ms' m) E ta t) (mCall ms' (noX m) (bRecvO c f g)) :=
  call_core (ta := tRecvS (ct.b.adr c) ta t) (S := fun σ vs H Q => SpM K ct.b ms' m vs H Q (E σ)) (sim_recvS hs hf hg) fun σ vs H Q h => h.noX (E σ)
/-! own operators -/
def bRecv2 (c : Nat) (f g : M D) : M (List Arg) := mB f fun x => mB g fun y => mB (mO (isIns c x)) fun _ => mB (mO (isIns c y)) fun _ => mP [.inr x, .inr y]
theorem sim_recv2 {c : Nat} {ta tb : TE} {f g : M D} (hf : SimF K ct ms vp W ta f) (hg : SimF K ct ms vp W tb g) : SimB K ct ms vp W (tRecv2 (ct.b.adr c) ta tb) (bRecv2 c f g) := fun H0 ρ σ R H ok Q q =>
  hf H0 ρ σ R H ok _ (Po.mono (Po.bind q) fun x ρ1 q v R1 H1 g1 ok1 r1 =>
    hg H0 ρ1 σ R1 H1 ok1 _ (Po.gr g1 (Po.bind q) fun y ρ2 q w R2 H2 g2 ok2 r2 => by
      obtain ⟨u1, e1, q⟩ := Po.opt (Po.bind q)
      obtain ⟨u2, e2, q⟩ := Po.opt (Po.bind q)
      obtain ⟨ns, ds, rfl⟩ := isIns_some e1
      obtain ⟨ns', ds', rfl⟩ := isIns_some e2
      have r1' := r1.mono g2.1
      obtain ⟨a, rfl, h1⟩ := r1'.insH
      obtain ⟨b, rfl, h2⟩ := r2.insH
      exact ⟨a, b, rfl, rfl, h1.mono ok2.same, h2.mono ok2.same, q _ R2 H2 (g1.trans g2) ok2 (.cons r1' (.cons r2 ⟨rfl, fun k v a x _ => by simp at x⟩))⟩))
theorem sim_binX {m : List D → Ans} {c : Nat} {f g : M D} {ta tb : TE} (hf : SimF K ct ms vp W ta f) (hg : SimF K ct ms vp W tb g) : SimE K ct ms vp W (tBinX (ct.b.adr c) (SpM K ct.b [] m) (WE W) ta tb) (mCall [] m (bRecv2 c f g)) :=
  call_core (sim_recv2 hf hg) fun σ vs H Q h => h
theorem sim_binX0 {m : List D → Ans} {c : Nat} {f g : M D} {ta tb : TE} {E : L2.St → XK} (hf : SimF K ct ms vp W ta f) (hg : SimF K ct ms vp W tb g) : SimE K ct ms vp W (tBinX (ct.b.adr c) (SpM K ct.b [] m) E ta tb) (mCall [] (noX m) (bRecv2 c f g)) :=
  call_core (S := fun σ vs H Q => SpM K ct.b [] m vs H Q (E σ)) (sim_recv2 hf hg) fun σ vs H Q h => h.noX (E σ)
/-! x in o -/
def bRecvIn (c : Nat) (f g : M D) : M (List Arg) := mB f fun x => mB g fun y => mB (mO (isIns c y)) fun _ => mP [.inr y, .inr x]
theorem sim_recvIn {c : Nat} {ta tb : TE} {f g : M D} (hf : SimF K ct ms vp W ta f) (hg : SimF K ct ms vp W tb g) : SimB K ct ms vp W (tRecvIn (ct.b.adr c) ta tb) (bRecvIn c f g) := fun H0 ρ σ R H ok Q q =>
  hf H0 ρ σ R H ok _ (Po.mono (Po.bind q) fun x ρ1 q v R1 H1 g1 ok1 r1 =>
    hg H0 ρ1 σ R1 H1 ok1 _ (Po.gr g1 (Po.bind q) fun y ρ2 q w R2 H2 g2 ok2 r2 => by
      obtain ⟨u2, e2, q⟩ := Po.opt (Po.bind q)
      obtain ⟨ns', ds', rfl⟩ := isIns_some e2
      have r1' := r1.mono g2.1
      obtain ⟨b, rfl, h2⟩ := r2.insH
      exact ⟨b, rfl, h2.mono ok2.same, q _ R2 H2 (g1.trans g2) ok2 (.cons r2 (.cons r1' ⟨rfl, fun k v a x _ => by simp at x⟩))⟩))
def mYes (neg : Bool) (f : M D) : M D := mB f fun d => mO ((asB d).map fun b => .bl (if neg = true then !b else b))
theorem Own.bl_inv {F : Addr → Prop} {v : V} {b : Bool} (h : Own K ct.b R H F v (.bl b)) : v = .bl b := (h.rep rfl).bl_inv
theorem sim_yes' {t : TE} {f : M D} {neg : Bool} (hf : SimE K ct ms vp W t f) : SimF K ct ms vp W (fun σ H Q => t σ H fun z H' => ∃ b, z = .bl b ∧ Q (.bl (if neg = true then !b else b)) H') (mYes neg f) := fun H0 ρ σ R H ok Q q =>
  hf H0 ρ σ R H ok _ (Po.mono (Po.bind q) fun d ρ1 q v R1 H1 g1 ok1 l1 => by
    obtain ⟨d', e, q⟩ := Po.opt q
    obtain ⟨b, e1, e2⟩ := Option.map_eq_some_iff.mp e
    cases asB_some e1
    subst e2
    obtain ⟨F, f1, _⟩ := ok1.own
    obtain ⟨u, x, y⟩ := f1 ρ1.length (.bl b) (by simp)
    have ev : v = .bl b := by
      rw [l1] at x
      have e3 : v = u := by simpa using x
      rw [e3]
      exact y.bl_inv
    exact ⟨b, ev, q _ R1 H1 g1 (ok1.pop l1 ok.mslt) (.bl _)⟩)
theorem sim_inX {m : List D → Ans} {c : Nat} {neg : Bool} {f g : M D} {ta tb : TE} (hf : SimF K ct ms vp W ta f) (hg : SimF K ct ms vp W tb g) : SimF K ct ms vp W (tInX (ct.b.adr c) (SpM K ct.b [] m) (WE W) neg ta tb) (mYes neg (mCall [] m (bRecvIn c f g))) :=
  sim_yes' (t := fun σ H Q => tRecvIn (ct.b.adr c) ta tb σ H fun vs H1 => SpM K ct.b [] m vs H1 Q (WE W σ)) (call_core (sim_recvIn hf hg) fun σ vs H Q h => h)
theorem sim_inX0 {m : List D → Ans} {c : Nat} {neg : Bool} {f g : M D} {ta tb : TE} {E : L2.St → XK} (hf : SimF K ct ms vp W ta f) (hg : SimF K ct ms vp W tb g) : SimF K ct ms vp W (tInX (ct.b.adr c) (SpM K ct.b [] m) E neg ta tb) (mYes neg (mCall [] (noX m) (bRecvIn c f g))) :=
  sim_yes' (t := fun σ H Q => tRecvIn (ct.b.adr c) ta tb σ H fun vs H1 => SpM K ct.b [] m vs H1 Q (E σ)) (call_core (S := fun σ vs H Q => SpM K ct.b [] m vs H Q (E σ)) (sim_recvIn hf hg) fun σ vs H Q h => h.noX (E σ))
/-! classes as values -/
def bCls (c : Nat) (g : M (List Arg)) : M (List Arg) := mB g fun as => mP (.inr (.cls c) :: as)
theorem sim_cls {c : Nat} {t : TA} {g : M (List Arg)} (hg : SimB K ct ms vp W t g) : SimB K ct ms vp W (fun σ H Q => tC (.ref (ct.b.adr c)) σ H fun x H1 => x = .ref (ct.b.adr c) ∧ t σ H1 fun vs H2 => Q (.ref (ct.b.adr c) :: vs) H2) (bCls c g) := fun H0 ρ σ R H ok Q q =>
  ⟨rfl, hg H0 ρ σ R H ok _ (Po.mono (Po.bind q) fun as ρ1 q vs R1 H1 g1 ok1 r1 => q _ R1 H1 g1 ok1 (.cons (.cls c) r1))⟩
theorem sim_cmeth {m : List D → Ans} {c : Nat} {g : M (List Arg)} {t : TA} (hg : SimB K ct ms vp W t g) : SimE K ct ms vp W (tCMethS (ct.b.adr c) (SpM K ct.b [] m) (WE W) (tC (.ref (ct.b.adr c))) t) (mCall [] m (bCls c g)) :=
  call_core (sim_cls hg) fun σ vs H Q h => h
theorem sim_cmeth0 {m : List D → Ans} {c : Nat} {g : M (List Arg)} {t : TA} {E : L2.St → XK} (hg : SimB K ct ms vp W t g) : SimE K ct ms vp W (tCMethS (ct.b.adr c) (SpM K ct.b [] m) E (tC (.ref (ct.b.adr c))) t) (mCall [] (noX m) (bCls c g)) :=
  call_core (S := fun σ vs H Q => SpM K ct.b [] m vs H Q (E σ)) (sim_cls hg) fun σ vs H Q h => h.noX (E σ)
def clsOf (c : Nat) : Option (Option D) → Option Unit
  | some (some (.cls k)) => if k = c then some () else none
  | _ => none
def mMakeL (i c : Nat) (m : List D → Ans) (f : M (List Arg)) : M D := mB (mGet fun ρ => clsOf c ρ[i]?) fun _ => mMake c m f
theorem makeL_core {i c : Nat} {m m' : List D → Ans} {f : M (List Arg)} {ta : TA} {E : L2.St → XK} (hf : SimB K ct ms vp W ta f) (hu : ∀ σ vs H Q, SpM K ct.b [0] m vs H Q (WE W σ) → SpM K ct.b [0] m' vs H Q (E σ)) :
    SimE K ct ms vp W (tMakeL i (ct.b.adr c) (SpM K ct.b [0] m') E ta) (mMakeL i c m f) := fun H0 ρ σ R H ok Q q => by
  obtain ⟨u, e, q⟩ := Po.get (Po.bind q)
  have hs : ρ[i]? = some (some (.cls c)) := by
    unfold clsOf at e
    split at e
    · rename_i k hk
      split at e
      · rename_i hkc
        rw [hk, hkc]
      · cases e
    · cases e
  obtain ⟨v, x, r⟩ := ok.slot hs rfl
  cases r
  exact ⟨x, make_core (c := c) (S := fun σ vs H Q => SpM K ct.b [0] m' vs H Q (E σ)) hf hu H0 ρ σ R H ok Q q⟩
theorem sim_makeL {i c : Nat} {m : List D → Ans} {f : M (List Arg)} {ta : TA} (hf : SimB K ct ms vp W ta f) : SimE K ct ms vp W (tMakeL i (ct.b.adr c) (SpM K ct.b [0] m) (WE W) ta) (mMakeL i c m f) := makeL_core hf fun _ _ _ _ h => h
theorem sim_makeL0 {i c : Nat} {m : List D → Ans} {f : M (List Arg)} {ta : TA} {E : L2.St → XK} (hf : SimB K ct ms vp W ta f) : SimE K ct ms vp W (tMakeL i (ct.b.adr c) (SpM K ct.b [0] m) E ta) (mMakeL i c (noX m) f) := makeL_core hf fun σ _ _ _ h => h.noX (E σ)
/-- a constant of a class -/
theorem sim_cval {C : Addr} {mc : Value} {f : Str} {v : V} {u : Value} {d : D} (r : ClX.CRead K C mc) (k : ClX.CVal K C mc f v u) (h : ∀ R, Rep K ct.b R v d) : SimF K ct ms vp W (ClX.tCVal K (tC (.ref C)) f) (mP d) := fun H0 ρ σ R H ok Q q =>
  ⟨C, mc, v, u, rfl, r, k, q v R H (Gr.refl _ _) ok (h R)⟩
end
section
variable {ρ : Env}
@[simp] theorem a_mSetSl {i c : Nat} {f : Str} {g : M D} : mSetSl i c f g ρ = tK (g ρ) fun x => mThen (mGet fun ρ => oinOf c ρ[i]?) fun z => mThen (mO (if f ∈ z.1 then none else some ())) fun _ ρ => .nx (ρ.set i (some (.oin c (z.1 ++ [f]) (z.2 ++ [x])))) := a_mThen
@[simp] theorem fldD_ins {c : Nat} {f : Str} {ns : List Str} {ds : List D} : fldD c f (.ins c ns ds) = fldV (ns, ds) f := if_pos rfl
@[simp] theorem a_mFld {c : Nat} {f : Str} {g : M D} : mFld c f g ρ = bK (g ρ) fun d => mO (fldD c f d) := a_mB
@[simp] theorem a_bRecv1 {c : Nat} {f : M D} : bRecv1 c f ρ = bK (f ρ) fun x => mB (mO (isIns c x)) fun _ => mP [.inr x] := a_mB
@[simp] theorem a_bRecv2 {c : Nat} {f g : M D} : bRecv2 c f g ρ = bK (f ρ) fun x => mB g fun y => mB (mO (isIns c x)) fun _ => mB (mO (isIns c y)) fun _ => mP [.inr x, .inr y] := a_mB
@[simp] theorem a_bRecvIn {c : Nat} {f g : M D} : bRecvIn c f g ρ = bK (f ρ) fun x => mB g fun y => mB (mO (isIns c y)) fun _ => mP [.inr y, .inr x] := a_mB
@[simp] theorem a_mYes {neg : Bool} {f : M D} : mYes neg f ρ = bK (f ρ) fun d => mO ((asB d).map fun b => .bl (if neg = true then !b else b)) := a_mB
@[simp] theorem a_bCls {c : Nat} {g : M (List Arg)} : bCls c g ρ = bK (g ρ) fun as => mP (.inr (.cls c) :: as) := a_mB
@[simp] theorem clsOf_cls {c : Nat} : clsOf c (some (some (.cls c))) = some () := if_pos rfl
@[simp] theorem a_mMakeL {i c : Nat} {m : List D → Ans} {f : M (List Arg)} : mMakeL i c m f ρ = bK (oK (clsOf c ρ[i]?) ρ) fun _ => mMake c m f := by rw [mMakeL, a_mB, a_mGet]
@[simp] theorem isO_cls {c : Nat} : D.isO (.cls c) = false := (rfl)
@[simp] theorem isO_fn {c : Nat} : D.isO (.fn c) = false := (rfl)
@[simp] theorem fz_cls {c : Nat} : D.fz (.cls c) = .cls c := by simp [D.fz]
@[simp] theorem fz_fn {c : Nat} : D.fz (.fn c) = .fn c := by simp [D.fz]
end
end Y

namespace Y
open PySem PySem.Spec PyProof.Rows L2
section
variable {K : PySem.W.Frag} {ct : CT} {ms : List Nat} {W : WX} {H0 R R' H H' : Hp} {vp : Nat → V} {ρ : Env} {σ : L2.St}
/-! ### instances walked by iter(self.f) -/
def itD (c : Nat) (f : Str) (d : D) : Option (List D) := (fldD c f d).bind seqD
theorem Rep.isIt {b : CTB} {c : Nat} {f : Str} {v : V} {d : D} {ds : List D} (hs : b.slt c = false) (h : itD c f d = some ds) (r : Rep K b R v d) : ∃ a l k ws, v = .ref a ∧ IsIt K R a (b.adr c) f k l ws ∧ Reps K b R ws ds := by
  obtain ⟨x, h1, h2⟩ := Option.bind_eq_some_iff.mp h
  obtain ⟨ns, es, rfl, e2⟩ := fldD_some h1
  obtain ⟨e3, o⟩ := fldV_some e2
  cases r with
  | slt hs' => rw [hs] at hs'; cases hs'
  | @ins a dx _ _ vs _ _ hh hn hl hc =>
    obtain ⟨k, w, _, q2, q3, q4⟩ := zip_look hl e3
    obtain ⟨l, ws, rfl, t1, t2⟩ := seqK_some (ct := b.triv) h2 (hc k w x q2 q3)
    exact ⟨a, l, isTp x, ws, rfl, ⟨dx, _, hh, q4, t1⟩, t2⟩
theorem IsIt.mono {a C : Addr} {F : Str} {k : Bool} {l : Addr} {xs : List V} (h : IsIt K H a C F k l xs) (e : Same H H') : IsIt K H' a C F k l xs := h.same e
def zipO (c : Nat) (f : Str) : List D → Option (List D)
  | [x, y] => match itD c f x, itD c f y with
    | some xs, some ys => some (List.zipWith (fun a b => D.tup [a, b]) xs ys)
    | _, _ => none
  | _ => none
def mZipO (c : Nat) (f : Str) (g : M (List D)) : M (List D) := mB g fun ds => mO (zipO c f ds)
theorem sim_zipO {c : Nat} {f : Str} {t : TA} {g : M (List D)} (hs : ct.b.slt c = false) (hg : SimA K ct ms vp W t g) : SimI K ct ms vp W (iZo K (ct.b.adr c) f t) (mZipO c f g) := fun H0 ρ σ R H ok Rr q =>
  hg H0 ρ σ R H ok _ (Po.mono (Po.bind q) fun ds ρ1 q vs R1 H1 g1 ok1 r1 => by
    obtain ⟨zs, e, q⟩ := Po.opt q
    match ds, e, r1 with
    | [x, y], e, r1 =>
      obtain ⟨v, u, rfl, rx, ry⟩ := two r1
      unfold zipO at e
      dsimp only at e
      split at e
      · rename_i xs ys h1 h2
        cases e
        obtain ⟨a, l, k, us, rfl, i1, ra⟩ := rx.isIt hs h1
        obtain ⟨b, l', k', ws, rfl, i2, rb⟩ := ry.isIt hs h2
        obtain ⟨_, _, _, _, qa⟩ := id i1
        obtain ⟨_, _, _, _, qb⟩ := id i2
        exact ⟨k, k', a, b, l, l', us, ws, rfl, i1.mono ok1.same, i2.mono ok1.same, q _ R1 H1 g1 ok1 (itok_zip qa qb ra rb)⟩
      · cases e)
def oListO (c : Nat) (f : Str) : List D → Option (List D)
  | [x] => itD c f x
  | _ => none
theorem so_listO {b : CTB} {c : Nat} {f : Str} (hs : b.slt c = false) : CbL K b (rListO K (b.adr c) f) (oListO c f) := fun R H vs ds s r Q q => by
  match ds, q, r with
  | [x], q, r =>
    obtain ⟨v, rfl, r1⟩ := one r
    simp only [oListO] at q
    cases e : itD c f x with
    | none => rw [e] at q; exact q.elim
    | some es =>
      rw [e] at q
      obtain ⟨a, l, k, ws, rfl, i1, ra⟩ := r1.isIt hs e
      exact ⟨k, a, l, ws, rfl, i1.mono s, fun p hp => q p ws hp ra⟩
theorem sim_isN2 {i c cX : Nat} {r : Bool} {x : Option D} {a : Addr} {od : Option Addr} {C Y1 Y2 : Addr} {vp' : Nat → V} {ms' : List Nat} (hC : C = ct.b.err cX) (hi : i ∈ ms') (hv : vp' i = .ref a) (hk : PySem.W.kitAny K (.ref C) [.ref Y1, .ref Y2] = some r) :
    SimF K (ct.with K c x od) ms' vp' W (tCB (rIsN2 K C a (.ref (ct.b.err c)) od) (tCons (tVar i) (tCons (tTup (tCons (tC (.ref Y1)) (tCons (tC (.ref Y2)) tNil))) tNil))) (mIsN cX r c x) := fun H0 ρ σ R H ok Q q => by
  unfold mIsN at q
  split at q
  · rename_i hc
    obtain ⟨rfl, hx⟩ := hc
    refine ⟨.ref a, by rw [ok.pins i hi, hv], ?_⟩
    refine ⟨show 2 ≤ sizeLine by decide, fun p hp => ?_⟩
    have iv := ok.inv.2
    cases x with
    | some d => cases hx
    | none =>
      have xx := Ext.heap (o := .tup [.ref Y1, .ref Y2]) ok.same hp
      exact ⟨p, Y1, Y2, r, rfl, by rw [hC], iv, upd_same, hk, q (.bl r) R _ (ok.gr xx) (ok.ext xx) (.bl r)⟩
  · exact q.elim
/-! ### list(zip(a, b)) -/
def mLstZip (g : M (List D)) : M D := mB g fun ds => mB (mO (zipD ds)) fun zs => mB (mO (szok zs.length)) fun _ => mP (.ols zs)
theorem zipW_at {xs ys : List D} {i : Nat} {x y : D} (h1 : xs[i]? = some x) (h2 : ys[i]? = some y) : (List.zipWith (fun a b => D.tup [a, b]) xs ys)[i]? = some (.tup [x, y]) := by
  rw [List.getElem?_zipWith, h1, h2]
theorem sim_lstZip {t : TA} {g : M (List D)} (hg : SimA K ct ms vp W t g) : SimE K ct ms vp W (tLstZip K t) (mLstZip g) := fun H0 ρ σ R H ok Q q =>
  hg H0 ρ σ R H ok _ (Po.mono (Po.bind q) fun ds ρ1 q vs R1 H1 g1 ok1 r1 => by
    obtain ⟨zs, e, q⟩ := Po.opt (Po.bind q)
    obtain ⟨u, e2, q⟩ := Po.opt (Po.bind q)
    match ds, e, r1 with
    | [x, y], e, r1 =>
      obtain ⟨v, u', rfl, rx, ry⟩ := two r1
      unfold zipD at e
      dsimp only at e
      split at e
      · rename_i xs ys h1 h2
        split at e
        · rename_i hk
          cases e
          obtain ⟨a, us, rfl, qa, ra⟩ := seqK_some h1 rx
          obtain ⟨b, ws, rfl, qb, rb⟩ := seqK_some h2 ry
          have hl : min us.length ws.length = (List.zipWith (fun a b => D.tup [a, b]) xs ys).length := by rw [List.length_zipWith, ra.1, rb.1]
          refine ⟨isTp x, isTp y, a, b, us, ws, rfl, SqK.mono ok1.same qa, SqK.mono ok1.same qb, by simpa using hk, by rw [hl]; exact szok_lt e2,
            fun i acc H' => ∃ R2, Gr H0 R1 R2 ∧ Ok K ct H0 ms vp ρ1 σ R2 H' ∧ i ≤ min us.length ws.length ∧ Reps K ct.b R2 acc ((List.zipWith (fun a b => D.tup [a, b]) xs ys).take i), ⟨fun i acc H' ⟨R2, g2, ok2, hi, r2⟩ => ?_, fun i acc H' ⟨R2, g2, ok2, hi, r2⟩ x' y' T ex ey hT => ?_⟩,
            ⟨R1, Gr.refl _ _, ok1, Nat.zero_le _, by rw [List.take_zero]; exact .nil⟩, fun acc H' q0 ⟨R2, g2, ok2, hi, r2⟩ hq => ?_⟩
          · exact ⟨SqK.mono ok2.same (SqK.mono g2.1 qa), SqK.mono ok2.same (SqK.mono g2.1 qb), by rw [r2.1, List.length_take]; omega⟩
          · have hix := (List.getElem?_eq_some_iff.mp ex).1
            have hiy := (List.getElem?_eq_some_iff.mp ey).1
            have dx : xs[i]? = some (xs[i]'(by rw [← ra.1]; exact hix)) := List.getElem?_eq_getElem _
            have dy : ys[i]? = some (ys[i]'(by rw [← rb.1]; exact hiy)) := List.getElem?_eq_getElem _
            have exn := Ext.new (o := .tup [x', y']) ok2.same hT
            have t : Reps K ct.b (upd R2 T (.tup [x', y'])) [x', y'] [xs[i]'(by rw [← ra.1]; exact hix), ys[i]'(by rw [← rb.1]; exact hiy)] := (Reps.nil.cons (((rb.2 i y' _ ey dy).mono g2.1).mono exn.r)).cons (((ra.2 i x' _ ex dx).mono g2.1).mono exn.r)
            refine ⟨_, g2.trans (ok2.gr exn), ok2.ext exn, by omega, ?_⟩
            have hz : i < (List.zipWith (fun a b => D.tup [a, b]) xs ys).length := by rw [← hl]; omega
            rw [List.take_succ_eq_append_getElem hz]
            refine (r2.mono exn.r).snoc ?_
            have ez := zipW_at dx dy
            rw [List.getElem?_eq_getElem hz] at ez
            rw [Option.some.inj ez]
            exact .tup (.inl (.inl upd_same)) t.1 t.2
          · rw [hl, List.take_length] at r2
            exact q (.ref q0) R2 _ (g1.trans g2) (ok2.list hq r2) ok2.len.symm
        · cases e
      · cases e)
/-! ### enumerate -/
def enumD : Nat → List D → List D
  | _, [] => []
  | n, d :: ds => .tup [.int n, d] :: enumD (n + 1) ds
theorem enumD_length : ∀ (n : Nat) (ds : List D), (enumD n ds).length = ds.length
  | _, [] => rfl
  | n, d :: ds => by rw [enumD, List.length_cons, List.length_cons, enumD_length]
theorem enumD_at : ∀ (ds : List D) (n i : Nat), (enumD n ds)[i]? = (ds[i]?).map fun d => .tup [.int ((n + i : Nat) : Int), d]
  | [], n, i => by simp [enumD]
  | d :: ds, n, 0 => by simp [enumD]
  | d :: ds, n, i + 1 => by
    rw [enumD, List.getElem?_cons_succ, enumD_at ds (n + 1) i, List.getElem?_cons_succ, show n + 1 + i = n + (i + 1) by omega]
def mEnum (g : M (List D)) : M (List D) := mB g fun ds => mO (match ds with
  | [x] => (seqD x).map (enumD 0)
  | _ => none)
theorem sim_enum {t : TA} {g : M (List D)} (hg : SimA K ct ms vp W t g) : SimI K ct ms vp W (iEnK K t) (mEnum g) := fun H0 ρ σ R H ok Rr q =>
  hg H0 ρ σ R H ok _ (Po.mono (Po.bind q) fun ds ρ1 q vs R1 H1 g1 ok1 r1 => by
    obtain ⟨zs, e, q⟩ := Po.opt q
    match ds, e, r1 with
    | [x], e, r1 =>
      obtain ⟨v, rfl, rx⟩ := one r1
      obtain ⟨xs, e1, e2⟩ := Option.map_eq_some_iff.mp e
      subst e2
      obtain ⟨a, ws, rfl, sq, ra⟩ := seqK_some e1 rx
      refine ⟨isTp x, a, ws, rfl, SqK.mono ok1.same sq, q _ R1 H1 g1 ok1 fun R2 H2 s1 s2 i => ⟨fun d ed => ?_, fun hl => ⟨SqK.mono s2 (SqK.mono s1 sq), ?_⟩⟩⟩
      · rw [enumD_at] at ed
        obtain ⟨y, ey, rfl⟩ := Option.map_eq_some_iff.mp ed
        have li := (List.getElem?_eq_some_iff.mp ey).1
        refine ⟨⟨SqK.mono s2 (SqK.mono s1 sq), by rw [ra.1]; exact li⟩, fun w H3 ⟨T, u, ew, hT, eH, hu⟩ => ?_⟩
        subst ew eH
        have ex := Ext.new (o := .tup [.int (i : Nat), u]) s2 hT
        have t : Reps K ct.b (upd R2 T (.tup [.int (i : Nat), u])) [.int (i : Nat), u] [.int ((0 + i : Nat) : Int), y] := (Reps.nil.cons (((ra.2 i u y hu ey).mono s1).mono ex.r)).cons (by rw [Nat.zero_add]; exact .int _)
        exact ⟨_, ex, .tup (.inl (.inl upd_same)) t.1 t.2⟩
      · rw [enumD_length] at hl
        rw [ra.1]
        exact hl)
/-! ### defs with *args -/
def mStarFn (n : Nat) (m : List D → Ans) : List D → Ans := fun ds => if n ≤ ds.length ∧ (ds.drop n).all (fun d => !d.isO) = true ∧ (ds.drop n).length ≤ 100000 then m (ds.take n ++ [.tup (ds.drop n)]) else .st
theorem pickV_take {n : Nat} {ms : List Nat} {vs : List V} {x : V} (h : ms.all (fun i => decide (i < n)) = true) (hn : n ≤ vs.length) : pickV ms (vs.take n ++ [x]) = pickV ms vs := by
  unfold pickV
  refine List.map_congr_left fun i hi => ?_
  have hi2 := of_decide_eq_true (List.all_eq_true.mp h i hi)
  unfold List.getD
  rw [List.getElem?_append_left (by rw [List.length_take]; omega), List.getElem?_take_of_lt hi2]
theorem star_core {b : CTB} {n : Nat} {ms : List Nat} {m : List D → Ans} {vs : List V} {H : Hp} {Q : VK} {E : XK} (hm : ms.all (fun i => decide (i < n)) = true) (h : SpM K b ms (mStarFn n m) vs H Q E) : starSp n (SpM K b ms m) vs H Q E := by
  obtain ⟨H0, R, ds, ok, q⟩ := h
  unfold mStarFn at q
  by_cases hc : n ≤ ds.length ∧ (ds.drop n).all (fun d => !d.isO) = true ∧ (ds.drop n).length ≤ 100000
  · rw [if_pos hc] at q
    obtain ⟨c1, c2, c3⟩ := hc
    have lv : vs.length = ds.length := by simpa using ok.len
    refine ⟨vs.take n, vs.drop n, (List.take_append_drop n vs).symm, by rw [List.length_take]; omega, ?_, fun p hp => ?_⟩
    · rw [List.length_drop] at c3 ⊢
      rw [lv]
      exact Nat.le_trans c3 (by decide)
    · have ex := Ext.new (o := .tup (vs.drop n)) ok.same hp
      have rs : Reps K b R (vs.drop n) (ds.drop n) := by
        refine ⟨by rw [List.length_drop, List.length_drop, lv], fun i v d e1 e2 => ?_⟩
        have hd := List.all_eq_true.mp c2 d (List.mem_of_getElem? e2)
        rw [List.getElem?_drop] at e1 e2
        obtain ⟨w, x, y⟩ := ok.slot (i := n + i) (d := d) (by rw [List.getElem?_map, e2]; rfl) (by simpa using hd)
        rw [List.getElem?_map, e1] at x
        cases x
        exact y
      have ok1 := ok.ext ex
      have ok2 : Ok K b.triv H0 [] (fun _ => .non) ((ds.take n).map some) ((vs.take n).map some) (upd R p (.tup (vs.drop n))) (upd H p (.tup (vs.drop n))) := by
        refine ok1.sel id (by simp [lv]) (fun i hi => by cases hi) (fun k d e => ?_) fun k k' _ _ e => e
        rw [List.map_take] at e
        rw [List.getElem?_take] at e
        split at e
        · rename_i hk
          refine ⟨e, ?_⟩
          rw [List.map_take, List.getElem?_take_of_lt hk]
          rfl
        · cases e
      have t := rs.mono ex.r
      have ok3 := ok2.temp (v := .ref p) (d := .tup (ds.drop n)) (.tup (.inl (.inl upd_same)) t.1 t.2)
      have pk : pickV ms (vs.take n ++ [.ref p]) = pickV ms vs := pickV_take hm (by omega)
      refine ⟨H0, _, ds.take n ++ [.tup (ds.drop n)], by simpa using ok3, ?_⟩
      have gr : Gr H0 R (upd R p (.tup (vs.drop n))) := ok.gr ex
      cases e : m (ds.take n ++ [.tup (ds.drop n)]) with
      | st => rw [e] at q; exact q.elim
      | ok d w =>
        rw [e] at q
        intro v R' H' g lw ok'
        rw [pk] at ok'
        exact q v R' H' (gr.trans g) lw ok'
      | ex c x w =>
        rw [e] at q
        intro od R' H' g lw ok' xo
        rw [pk] at ok'
        exact q od R' H' (gr.trans g) lw ok' xo
  · rw [if_neg hc] at q
    exact q.elim
end
section
variable {ρ : Env}
@[simp] theorem itD_ins {c : Nat} {f : Str} {ns : List Str} {ds : List D} : itD c f (.ins c ns ds) = (fldV (ns, ds) f).bind seqD := by simp [itD]
@[simp] theorem a_mZipO {c : Nat} {f : Str} {g : M (List D)} : mZipO c f g ρ = bK (g ρ) fun ds => mO (zipO c f ds) := a_mB
@[simp] theorem oListO_one {c : Nat} {f : Str} {x : D} : oListO c f [x] = itD c f x := (rfl)
@[simp] theorem a_mLstZip {g : M (List D)} : mLstZip g ρ = bK (g ρ) fun ds => mB (mO (zipD ds)) fun zs => mB (mO (szok zs.length)) fun _ => mP (.ols zs) := a_mB
@[simp] theorem a_mEnum {g : M (List D)} : mEnum g ρ = bK (g ρ) fun ds => mO (match ds with | [x] => (seqD x).map (enumD 0) | _ => none) := a_mB
end
end Y

namespace Y
open PySem PySem.Spec PyProof.Rows L2
section
variable {K : PySem.W.Frag} {ct : CT} {ms : List Nat} {W : WX} {H0 R R' H H' : Hp} {vp : Nat → V} {ρ : Env} {σ : L2.St}
/-! ### name.count(x): flat items -/
def cntD (x : D) (ds : List D) : Option D := if (flD x && ds.all flD) = true then some (.int (ds.countP fun y => eqF y x : Nat)) else none
theorem cntD_V {b : CTB} {x : V} {d : D} (r : Rep K b R x d) (h : flD d = true) : ∀ {vs : List V} {ds : List D}, Reps K b R vs ds → ds.all flD = true → (vs.all flatV = true ∧ (vs.countP fun v => eqV v x) = ds.countP fun y => eqF y d)
  | vs, [], rs, _ => by cases rs.nil_inv; exact ⟨rfl, rfl⟩
  | vs, e :: ds, rs, hs => by
    obtain ⟨v, ws, rfl, rv, rw'⟩ := rs.cons_inv
    rw [List.all_cons, Bool.and_eq_true] at hs
    obtain ⟨i1, i2⟩ := cntD_V r h rw' hs.2
    refine ⟨by rw [List.all_cons, flD_V rv hs.1, i1]; rfl, ?_⟩
    rw [List.countP_cons, List.countP_cons, i2, eqF_V rv r hs.1 h]
def mCntL (i : Nat) (g : M D) : M D := mB (mGet fun ρ => seqOf ρ[i]?) fun _ => mB g fun x => mB (mGet fun ρ => seqOf ρ[i]?) fun ds => mO (cntD x ds)
theorem sim_cntL {i : Nat} {te : TE} {g : M D} (hg : SimF K ct ms vp W te g) : SimF K ct ms vp W (tBM K "list" (rCntK K false) (tVar i) (tCons te tNil)) (mCntL i g) := fun H0 ρ σ R H ok Q q => by
  obtain ⟨ds0, e0, q⟩ := Po.get (Po.bind q)
  obtain ⟨d0, e2, e3⟩ := seqOf_some e0
  obtain ⟨a0, vs0, x0, y0, _⟩ := ok.seq e2 e3
  refine ⟨.ref a0, x0, .inl ⟨rfl, _, sql0 y0⟩, hg H0 ρ σ R H ok _ (Po.mono (Po.bind q) fun d ρ1 q w R1 H1 g1 ok1 r1 => ?_)⟩
  obtain ⟨ds, e, q⟩ := Po.get (Po.bind q)
  obtain ⟨d', e2, e3⟩ := seqOf_some e
  obtain ⟨a, vs, x, y, l, rd⟩ := ok1.seq e2 e3
  cases x0.symm.trans x
  obtain ⟨d3, e4, q⟩ := Po.opt q
  unfold cntD at e4
  split at e4
  · rename_i hc
    cases e4
    obtain ⟨f1, f2⟩ := Bool.and_eq_true_iff.mp hc
    have rs : Reps K ct.b R1 vs ds := ⟨l, fun k v d p q => rd k v d p q (flD_isO (List.all_eq_true.mp f2 d (List.mem_of_getElem? q)))⟩
    obtain ⟨h1, h2⟩ := cntD_V r1 f1 rs f2
    refine ⟨a0, vs, w, rfl, rfl, sql0 y, flD_V r1 f1, h1, q _ R1 H1 g1 ok1 ?_⟩
    rw [h2]
    exact .int _
  · cases e4
end
section
variable {ρ : Env}
@[simp] theorem a_mCntL {i : Nat} {g : M D} : mCntL i g ρ = bK (oK (seqOf ρ[i]?) ρ) fun _ => mB g fun x => mB (mGet fun ρ => seqOf ρ[i]?) fun ds => mO (cntD x ds) := by rw [mCntL, a_mB, a_mGet]
@[simp] theorem cntD_of {x : D} {ds : List D} : cntD x ds = if (flD x && ds.all flD) = true then some (.int (ds.countP fun y => eqF y x : Nat)) else none := (rfl)
end
end Y

namespace Y
open PySem PySem.Spec PyProof.Rows L2
section
variable {K : PySem.W.Frag} {ct : CT} {ms : List Nat} {W : WX} {H0 R R' H H' : Hp} {vp : Nat → V} {ρ : Env} {σ : L2.St}
/-! ### making, with slots lent -/
theorem argsD_app {x : Option D} : ∀ {as : List Arg} {ds : List D}, argsD ρ as = some ds → argsD (ρ ++ [x]) as = some ds
  | [], ds, h => h
  | a :: as, ds, h => by
    rw [argsD] at h ⊢
    split at h
    · rename_i d es e1 e2
      cases h
      rw [argsD_app e2]
      have e3 : argD (ρ ++ [x]) a = some d := by
        cases a with
        | inr d => exact e1
        | inl i =>
          simp only [argD] at e1 ⊢
          by_cases hi : i < ρ.length
          · rw [List.getElem?_append_left hi]; exact e1
          · rw [List.getElem?_eq_none (by omega)] at e1; cases e1
      rw [e3]
    · cases h
theorem argsD_lt {i : Nat} : ∀ {as : List Arg} {ds : List D}, argsD ρ as = some ds → Sum.inl i ∈ as → i < ρ.length
  | [], ds, _, h => nomatch h
  | a :: as, ds, h, hm => by
    rw [argsD] at h
    split at h
    · rename_i d es e1 e2
      rcases List.mem_cons.mp hm with e | hm
      · subst e
        simp only [argD] at e1
        by_cases hi : i < ρ.length
        · exact hi
        · rw [List.getElem?_eq_none (by omega)] at e1; cases e1
      · exact argsD_lt e2 hm
    · cases h
theorem brw_inlm {p i : Nat} : ∀ {as : List Arg} {n : Nat}, (p, i) ∈ brw n as → Sum.inl i ∈ as
  | [], n, h => by simp [brw] at h
  | .inl j :: as, n, h => by
    rw [brw] at h
    rcases List.mem_cons.mp h with e | h
    · cases e; exact List.mem_cons_self
    · exact List.mem_cons_of_mem _ (brw_inlm h)
  | .inr d :: as, n, h => by
    rw [brw] at h
    exact List.mem_cons_of_mem _ (brw_inlm h)
theorem putW_app {x : Option D} : ∀ {is : List Nat} {w : List D} {ρ : Env}, (∀ i ∈ is, i < ρ.length) → putW is w (ρ ++ [x]) = putW is w ρ ++ [x]
  | [], w, ρ, _ => by cases w <;> rfl
  | i :: is, [], ρ, _ => rfl
  | i :: is, d :: w, ρ, h => by
    have hi := h i List.mem_cons_self
    rw [putW, putW, List.set_append_left _ _ hi]
    exact putW_app fun j hj => by rw [List.length_set]; exact h j (List.mem_cons_of_mem _ hj)
def kkK (n : Nat) (is : List Nat) : Ans → Env → Res D
  | .ok .non (d :: w), ρ => if w.length = n then .ok d (putW is w ρ) else .st
  | .ex k x (_ :: w), ρ => if w.length = n then .ex k x (putW is w ρ) else .st
  | _, _ => .st
def mkB (c : Nat) (ms : List Nat) (m : List D → Ans) (as : List Arg) (ds : List D) : M D := if (brw 1 as).map (·.1) = ms ∧ ((brw 1 as).map (·.2)).Nodup then fun ρ => kkK ms.length ((brw 1 as).map (·.2)) (m (.oin c [] [] :: ds)) ρ
  else fun _ => .st
def mMakeB (c : Nat) (ms : List Nat) (m : List D → Ans) (f : M (List Arg)) : M D := mB f fun as => mB (mGet fun ρ => argsD ρ as) fun ds => mkB c ms m as ds
theorem makeB_core {c : Nat} {ms1 : List Nat} {m : List D → Ans} {f : M (List Arg)} {ta : TA} {S : L2.St → List V → Hp → VK → Prop} (hf : SimB K ct ms vp W ta f) (hu : ∀ σ vs H Q, SpM K ct.b (0 :: ms1) m vs H Q (WE W σ) → S σ vs H Q) :
    SimE K ct ms vp W (fun σ H Q => ta σ H fun vs H1 => ∀ x dx, H1 x = none → H1 dx = none → dx ≠ x → S σ (.ref x :: vs) (upd (upd H1 dx (.own x)) x (.ins (ct.b.adr c) dx [])) (fun v H2 => v = .non ∧ Q (.ref x) H2)) (mMakeB c ms1 m f) := fun H0 ρ σ R H ok Q q => by
  refine hf H0 ρ σ R H ok _ (Po.mono (Po.bind q) fun as ρ1 q vs R1 H1 g1 ok1 r1 x dx hx hdx ne => ?_)
  obtain ⟨ds, e, q⟩ := Po.get (Po.bind q)
  unfold mkB at q
  split at q
  · rename_i hb
    obtain ⟨hb1, hb2⟩ := hb
    unfold kkK at q
    have sm : Same H1 (upd (upd H1 dx (.own x)) x (.ins (ct.b.adr c) dx [])) := fun b o h => by
      rw [upd_ne (ne_of_none h hx), upd_ne (ne_of_none h hdx)]
      exact h
    have ex : Ext R1 H1 R1 (upd (upd H1 dx (.own x)) x (.ins (ct.b.adr c) dx [])) := ⟨Same.refl _, ok1.same.trans sm, sm, fun _ h => .inl h⟩
    have ob : Own K ct.b R1 (upd (upd H1 dx (.own x)) x (.ins (ct.b.adr c) dx [])) (fun b => b = x ∨ b = dx) (.ref x) (.oin c [] []) := by
      cases e : ct.b.slt c with
      | false => exact .oin (vs := []) (fun _ _ => False) e upd_same (.inl rfl) rfl rfl (fun i v d h => by simp at h) (fun _ _ h => h.elim) fun _ _ _ _ h => h.elim
      | true => exact .osl (vs := []) (ws := []) e (.inl ⟨upd_same, rfl⟩) (.inl rfl) (.inr rfl) ne (fun f h => by simp at h) (fun i f v h => by simp at h) rfl .nil
    have ok2 := ok1.add ex (v := .ref x) (d := .oin c [] []) ob fun b hb => by
      rcases hb with hb | hb
      · rw [hb]
        exact ⟨hx, ok1.same.free hx, by rw [upd_same]; exact Option.some_ne_none _⟩
      · rw [hb]
        exact ⟨hdx, ok1.same.free hdx, by rw [upd_ne ne, upd_same]; exact Option.some_ne_none _⟩
    have len : ρ1.length = σ.length := ok1.len.symm
    have ra : ArgsOk K ct (σ ++ [some (.ref x)]) R1 (.ref x :: vs) (.inl ρ1.length :: as) := by
      refine .cons (by show (σ ++ [some (V.ref x)])[ρ1.length]? = _; rw [len]; simp) ⟨r1.1, fun k v a h1 h2 => ?_⟩
      have z := r1.2 k v a h1 h2
      cases a with
      | inr d => exact z
      | inl i =>
        have z : σ[i]? = some (some v) := z
        show (σ ++ [some (V.ref x)])[i]? = some (some v)
        rw [List.getElem?_append_left (List.getElem?_eq_some_iff.mp z).1]
        exact z
    have ea : argsD (ρ1 ++ [some (.oin c [] [])]) (.inl ρ1.length :: as) = some (.oin c [] [] :: ds) := by
      rw [argsD, argsD_app e]
      simp [argD]
    have lt : ∀ i ∈ (brw 1 as).map (·.2), i < ρ1.length := fun i hi => by
      obtain ⟨⟨p, j⟩, h1, h2⟩ := List.mem_map.mp hi
      cases (show j = i from h2)
      exact argsD_lt e (brw_inlm h1)
    obtain ⟨HX, okX, back⟩ := ok2.back (ms' := 0 :: ms1) (I := ρ1.length :: (brw 1 as).map (·.2)) ra ea (by rw [brw, List.map_cons, hb1]) (by rw [brw, List.map_cons]) (List.nodup_cons.mpr ⟨fun z => Nat.lt_irrefl _ (lt _ z), hb2⟩)
    refine hu _ _ _ _ ⟨HX, R1, _, okX.cast rfl trivial, ?_⟩
    have pw : ∀ (d1 : D) (w : List D), putW (ρ1.length :: (brw 1 as).map (·.2)) (d1 :: w) (ρ1 ++ [some (D.oin c [] [])]) = putW ((brw 1 as).map (·.2)) w ρ1 ++ [some d1] := fun d1 w => by
      rw [putW, ← putW_app lt]
      congr 1
      simp [List.set_append]
    have pl : ∀ w : List D, (putW ((brw 1 as).map (·.2)) w ρ1).length = σ.length := fun w => by rw [putW_length, len]
    cases em : m (D.oin c [] [] :: ds) with
    | st => rw [em] at q; exact q.elim
    | ok d w =>
      rw [em] at q
      intro v R2 H2 g2 lw okr
      match w, lw with
      | d1 :: w, lw =>
        have lw2 : w.length = ms1.length := by simpa using lw
        obtain ⟨g3, b1, b2⟩ := back (d1 :: w) R2 H2 g2 lw
        have okf := b1 _ _ (okr.cast rfl (ct.mono _ _ g2.1 okX.inv))
        rw [pw] at okf
        have ev : d = .non → v = .non := fun e => by
          subst e
          obtain ⟨F, f1, _⟩ := okf.own
          obtain ⟨u, h1, h2⟩ := f1 (ρ1.length + 1) .non (by
            rw [List.getElem?_append_right (by rw [List.length_append, pl, len]; simp)]
            rw [List.length_append, pl, len]
            simp)
          have h3 : (σ ++ [some (V.ref x)] ++ [some v])[ρ1.length + 1]? = some (some v) := by rw [len]; simp
          rw [h3] at h1
          cases h1
          exact (h2.rep rfl).non_inv
        cases d with
        | non =>
          dsimp only at q
          rw [if_pos lw2] at q
          refine ⟨ev rfl, q (.ref x) R2 H2 (g1.trans g3) (okf.pop (by rw [List.length_append, List.length_append, pl]; rfl) ?_) (pl w)⟩
          intro i hi
          have := ok1.mslt i hi
          simp
          omega
        | _ => exact q.elim
    | ex k y w =>
      rw [em] at q
      intro od R2 H2 g2 lw okr xo
      match w, lw with
      | d1 :: w, lw =>
        have lw2 : w.length = ms1.length := by simpa using lw
        obtain ⟨g3, b1, b2⟩ := back (d1 :: w) R2 H2 g2 lw
        have okf := b2 (okr.cast rfl (ct.mono _ _ g2.1 okX.inv))
        rw [pw] at okf
        dsimp only at q
        rw [if_pos lw2] at q
        exact q od R2 H2 (g1.trans g3) (okf.pop (pl w) fun i hi => ok1.mslt i hi) xo
  · exact q.elim
theorem makeBDS_core {c : Nat} {ms1 : List Nat} {m m' : List D → Ans} {f : M (List Arg)} {ta : TA} {dvs : List V} {dds : List D} {E : L2.St → XK} (hf : SimB K ct ms vp W ta f) (hd : ∀ R, Reps K ct.b R dvs dds) (hu : ∀ σ vs H Q, SpM K ct.b (0 :: ms1) m vs H Q (WE W σ) → SpM K ct.b (0 :: ms1) m' vs H Q (E σ)) :
    SimE K ct ms vp W (tMakeDS (ct.b.adr c) (SpM K ct.b (0 :: ms1) m') dvs E ta) (mMakeB c ms1 m (bApp f dds)) := by
  have h : SimB K ct ms vp W (fun σ H Q => ta σ H fun vs H1 => Q (vs ++ dvs) H1) (bApp f dds) := fun H0 ρ σ R H ok Q q =>
    hf H0 ρ σ R H ok _ (Po.mono (Po.bind q) fun as ρ1 q vs R1 H1 g1 ok1 r1 => q (vs ++ dvs) R1 H1 g1 ok1 (r1.app (.of (hd R1))))
  exact makeB_core (c := c) (S := fun σ vs H Q => SpM K ct.b (0 :: ms1) m' vs H Q (E σ)) (ta := fun σ H Q => ta σ H fun vs H1 => Q (vs ++ dvs) H1) h hu
theorem sim_makeBDS {c : Nat} {ms1 : List Nat} {m : List D → Ans} {f : M (List Arg)} {ta : TA} {dvs : List V} {dds : List D} (hf : SimB K ct ms vp W ta f) (hd : ∀ R, Reps K ct.b R dvs dds) : SimE K ct ms vp W (tMakeDS (ct.b.adr c) (SpM K ct.b (0 :: ms1) m) dvs (WE W) ta) (mMakeB c ms1 m (bApp f dds)) :=
  makeBDS_core hf hd fun _ _ _ _ h => h
theorem sim_makeBDS0 {c : Nat} {ms1 : List Nat} {m : List D → Ans} {f : M (List Arg)} {ta : TA} {dvs : List V} {dds : List D} {E : L2.St → XK} (hf : SimB K ct ms vp W ta f) (hd : ∀ R, Reps K ct.b R dvs dds) : SimE K ct ms vp W (tMakeDS (ct.b.adr c) (SpM K ct.b (0 :: ms1) m) dvs E ta) (mMakeB c ms1 (noX m) (bApp f dds)) :=
  makeBDS_core hf hd fun σ _ _ _ h => h.noX (E σ)
theorem makeBKS_core {c n j : Nat} {ms1 : List Nat} {m m' : List D → Ans} {f : M (List Arg)} {g : M (List D)} {ta tk : TA} {gV : List V → List V → List V} {k : List Arg → List Arg → List Arg} {E : L2.St → XK} (hf : SimB K ct ms vp W ta f) (hg : SimA K ct ms vp W tk g)
    (hk : ∀ σ R vs zs as bs, ArgsOk K ct σ R vs as → ArgsOk K ct σ R zs bs → ArgsOk K ct σ R (gV vs zs) (k as bs)) (hx : ∀ x vs zs, gV (x :: vs) zs = x :: gV vs zs) (hu : ∀ σ vs H Q, SpM K ct.b (0 :: ms1) m vs H Q (WE W σ) → SpM K ct.b (0 :: ms1) m' vs H Q (E σ)) : SimE K ct ms vp W (tMakeKS (ct.b.adr c) n j (SpM K ct.b (0 :: ms1) m') gV E ta tk) (mMakeB c ms1 m (bKw n j f g k)) := by
  have h : SimB K ct ms vp W (fun σ H Q => ta σ H fun vs H1 => tk σ H1 fun zs H2 => vs.length = n ∧ zs.length = j ∧ Q (gV vs zs) H2) (bKw n j f g k) := fun H0 ρ σ R H ok Q q =>
    hf H0 ρ σ R H ok _ (Po.mono (Po.bind q) fun as ρ1 q vs R1 H1 g1 ok1 r1 =>
      hg H0 ρ1 σ R1 H1 ok1 _ (Po.gr g1 (Po.bind q) fun zs ρ2 q ws R2 H2 g2 ok2 r2 => by
        split at q
        · rename_i hl
          exact ⟨r1.1.trans hl.1, r2.1.trans hl.2, q (gV vs ws) R2 H2 (g1.trans g2) ok2 (hk σ R2 vs ws as _ (r1.mono g2.1) (.of r2))⟩
        · exact q.elim))
  have core := makeB_core (c := c) (m := m) (S := fun σ vs H Q => SpM K ct.b (0 :: ms1) m' vs H Q (E σ)) (ta := fun σ H Q => ta σ H fun vs H1 => tk σ H1 fun zs H2 => vs.length = n ∧ zs.length = j ∧ Q (gV vs zs) H2) h hu
  have e : tMakeKS (ct.b.adr c) n j (SpM K ct.b (0 :: ms1) m') gV E ta tk = fun σ H Q => (fun σ H Q => ta σ H fun vs H1 => tk σ H1 fun zs H2 => vs.length = n ∧ zs.length = j ∧ Q (gV vs zs) H2) σ H fun vs H1 => ∀ x dx, H1 x = none → H1 dx = none → dx ≠ x →
      SpM K ct.b (0 :: ms1) m' (.ref x :: vs) (upd (upd H1 dx (.own x)) x (.ins (ct.b.adr c) dx [])) (fun v H2 => v = .non ∧ Q (.ref x) H2) (E σ) := by
    funext σ H Q
    simp only [tMakeKS, hx]
  rw [e]
  exact core
theorem sim_makeBKS {c n j : Nat} {ms1 : List Nat} {m : List D → Ans} {f : M (List Arg)} {g : M (List D)} {ta tk : TA} {gV : List V → List V → List V} {k : List Arg → List Arg → List Arg} (hf : SimB K ct ms vp W ta f) (hg : SimA K ct ms vp W tk g)
    (hk : ∀ σ R vs zs as bs, ArgsOk K ct σ R vs as → ArgsOk K ct σ R zs bs → ArgsOk K ct σ R (gV vs zs) (k as bs)) (hx : ∀ x vs zs, gV (x :: vs) zs = x :: gV vs zs) : SimE K ct ms vp W (tMakeKS (ct.b.adr c) n j (SpM K ct.b (0 :: ms1) m) gV (WE W) ta tk) (mMakeB c ms1 m (bKw n j f g k)) :=
  makeBKS_core hf hg hk hx fun _ _ _ _ h => h
theorem sim_makeBKS0 {c n j : Nat} {ms1 : List Nat} {m : List D → Ans} {f : M (List Arg)} {g : M (List D)} {ta tk : TA} {gV : List V → List V → List V} {k : List Arg → List Arg → List Arg} {E : L2.St → XK} (hf : SimB K ct ms vp W ta f) (hg : SimA K ct ms vp W tk g)
    (hk : ∀ σ R vs zs as bs, ArgsOk K ct σ R vs as → ArgsOk K ct σ R zs bs → ArgsOk K ct σ R (gV vs zs) (k as bs)) (hx : ∀ x vs zs, gV (x :: vs) zs = x :: gV vs zs) : SimE K ct ms vp W (tMakeKS (ct.b.adr c) n j (SpM K ct.b (0 :: ms1) m) gV E ta tk) (mMakeB c ms1 (noX m) (bKw n j f g k)) :=
  makeBKS_core hf hg hk hx fun σ _ _ _ h => h.noX (E σ)
/-! ### a star over what stands in a slot -/
def flSq (x : Option (Option D)) : Option (List D) := (sqOf x).bind fun ds => if ds.any D.isO = true then none else some ds
def mStarV (i : Nat) (g : M (List D)) : M (List D) := mB (mGet fun ρ => flSq ρ[i]?) fun xs => mB g fun ys => mP (xs ++ ys)
theorem sim_starV {i : Nat} {t : TA} {g : M (List D)} (hg : SimA K ct ms vp W t g) : SimA K ct ms vp W (StX.tStar K (tVar i) t) (mStarV i g) := fun H0 ρ σ R H ok Q q => by
  obtain ⟨xs, e, q⟩ := Po.get (Po.bind q)
  unfold flSq at e
  obtain ⟨ds, e1, e2⟩ := Option.bind_eq_some_iff.mp e
  split at e2
  · cases e2
  · rename_i no
    cases e2
    obtain ⟨a, vs, x, y, l, rd⟩ := ok.sq e1
    have rs : Reps K ct.b R vs xs := ⟨l, fun k v d p q => rd k v d p q (by
      cases z : d.isO with
      | false => rfl
      | true => exact (no (List.any_eq_true.mpr ⟨d, List.mem_of_getElem? q, z⟩)).elim)⟩
    refine ⟨.ref a, x, a, vs, rfl, y.symm, ?_⟩
    exact hg H0 ρ σ R H ok _ (Po.mono (Po.bind q) fun ys ρ2 q3 ws R2 H2 g2 ok2 r2 => q3 (vs ++ ws) R2 H2 g2 ok2 ((rs.mono g2.1).app r2))
end
section
variable {ρ : Env}
@[simp] theorem kkK_ok {n : Nat} {is : List Nat} {d : D} {w : List D} : kkK n is (.ok .non (d :: w)) ρ = if w.length = n then .ok d (putW is w ρ) else .st := (rfl)
@[simp] theorem kkK_ex {n : Nat} {is : List Nat} {d : D} {w : List D} {k : Nat} {x : Option D} : kkK n is (.ex k x (d :: w)) ρ = if w.length = n then .ex k x (putW is w ρ) else .st := (rfl)
@[simp] theorem mkB_1 {c p i : Nat} {m : List D → Ans} {as : List Arg} {ds : List D} (h : brw 1 as = [(p, i)]) : mkB c [p] m as ds ρ = kkK 1 [i] (m (.oin c [] [] :: ds)) ρ := by
  unfold mkB
  rw [h, if_pos ⟨rfl, by simp⟩]
  rfl
@[simp] theorem a_mMakeB {c : Nat} {ms : List Nat} {m : List D → Ans} {f : M (List Arg)} : mMakeB c ms m f ρ = bK (f ρ) fun as => mB (mGet fun ρ => argsD ρ as) fun ds => mkB c ms m as ds := a_mB
def noO (ds : List D) : Option (List D) := if ds.any D.isO = true then none else some ds
@[simp] theorem flSq_ols {ds : List D} : flSq (some (some (.ols ds))) = noO ds := (rfl)
@[simp] theorem flSq_lst {ds : List D} : flSq (some (some (.lst ds))) = noO ds := (rfl)
@[simp] theorem a_mStarV {i : Nat} {g : M (List D)} : mStarV i g ρ = bK (oK (flSq ρ[i]?) ρ) fun xs => mB g fun ys => mP (xs ++ ys) := by rw [mStarV, a_mB, a_mGet]
end
end Y

namespace Y
open PySem PySem.Spec PyProof.Rows L2
section
variable {K : PySem.W.Frag} {ct : CT} {ms : List Nat} {W : WX} {H0 R R' H H' : Hp} {vp : Nat → V} {ρ : Env} {σ : L2.St}
/-! ### tuple(x), its object known -/
def oTupleX : List D → Option D
  | [.lst ds] => some (.tpx ds)
  | [.tpx ds] => some (.tpx ds)
  | _ => none
theorem so_tupleX {b : CTB} : CbF K b (rTupleX K) oTupleX := fun R H vs ds s r Q q => by
  match ds, q, r with
  | [.lst es], q, r =>
    obtain ⟨v, rfl, r1⟩ := one r
    obtain ⟨a, us, rfl, h, t⟩ := r1.lst_inv
    refine ⟨a, us, rfl, .inl ⟨.inl (.inl (s _ _ h)), fun l o hl hd => ?_⟩⟩
    have x := Ext.new (o := .frz o (.tup us)) s hl
    exact q _ _ _ x (.tpx upd_same hd t.1 (t.mono x.r).2)
  | [.tpx es], q, r =>
    obtain ⟨v, rfl, r1⟩ := one r
    have r0 := r1
    cases r1 with
    | tpx h hd hl hc => exact ⟨_, _, rfl, .inr ⟨⟨_, s _ _ h, hd⟩, q _ R H (Ext.refl s) r0⟩⟩
/-! ### x.count(y), x such a tuple -/
def mCntX (f g : M D) : M D := mB f fun z => mB (mO (match z with | .tpx ds => some ds | _ => none)) fun ds => mB g fun x => mO (cntD x ds)
theorem sim_cntX {tf te : TE} {f g : M D} (hf : SimF K ct ms vp W tf f) (hg : SimF K ct ms vp W te g) : SimF K ct ms vp W (tBMX (rCntK K true) tf (tCons te tNil)) (mCntX f g) := fun H0 ρ σ R H ok Q q =>
  hf H0 ρ σ R H ok _ (Po.mono (Po.bind q) fun z ρ1 q w R1 H1 g1 ok1 r1 => by
    obtain ⟨ds, e, q⟩ := Po.opt (Po.bind q)
    split at e
    · cases e
      obtain ⟨a, vs, ea, sq, rs⟩ := r1.tpx_tup.tup_inv
      subst ea
      have tx : tupXV (.ref a) H1 := by
        cases r1 with
        | tpx h hd hl hc => exact ⟨_, _, _, rfl, ok1.same _ _ h, hd⟩
      refine ⟨tx, hg H0 ρ1 σ R1 H1 ok1 _ (Po.gr g1 (Po.bind q) fun d ρ2 q w R2 H2 g2 ok2 r2 => ?_)⟩
      obtain ⟨d3, e4, q⟩ := Po.opt q
      unfold cntD at e4
      split at e4
      · rename_i hc
        cases e4
        obtain ⟨f1, f2⟩ := Bool.and_eq_true_iff.mp hc
        obtain ⟨h1, h2⟩ := cntD_V r2 f1 (rs.mono g2.1) f2
        refine ⟨a, vs, w, rfl, rfl, SqT.mono ok2.same (SqT.mono g2.1 sq), flD_V r2 f1, h1, q _ R2 H2 (g1.trans g2) ok2 ?_⟩
        rw [h2]
        exact .int _
      · cases e4
    · cases e)
end
section
variable {ρ : Env}
@[simp] theorem oTupleX_lst {ds : List D} : oTupleX [.lst ds] = some (.tpx ds) := (rfl)
@[simp] theorem oTupleX_tpx {ds : List D} : oTupleX [.tpx ds] = some (.tpx ds) := (rfl)
@[simp] theorem a_mCntX {f g : M D} : mCntX f g ρ = bK (f ρ) fun z => mB (mO (match z with | .tpx ds => some ds | _ => none)) fun ds => mB g fun x => mO (cntD x ds) := a_mB
/-! what exact tuples do -/
@[simp] theorem isO_tpx {b : List D} : D.isO (.tpx b) = false := (rfl)
@[simp] theorem fz_tpx {b : List D} : D.fz (.tpx b) = .tpx b := by simp [D.fz]
@[simp] theorem seqOf_tpx {ds : List D} : seqOf (some (some (.tpx ds))) = none := (rfl)
@[simp] theorem tupOf_tpx {ds : List D} : tupOf (some (some (.tpx ds))) = some ds := (rfl)
@[simp] theorem sqOf_tpx {ds : List D} : sqOf (some (some (.tpx ds))) = some ds := (rfl)
@[simp] theorem seqD_tpx {ds : List D} : seqD (.tpx ds) = some ds := (rfl)
@[simp] theorem oIxA_tpx {ds : List D} {y : D} : oIxA (.tpx ds) y = ixO ds y := (rfl)
@[simp] theorem oList_tpx {ds : List D} : oList [.tpx ds] = some ds := (rfl)
@[simp] theorem oTuple_tpx {ds : List D} : oTuple [.tpx ds] = some (.tpx ds) := (rfl)
@[simp] theorem isTy_list_tpx {b : List D} : isTy .list (.tpx b) = some false := (rfl)
@[simp] theorem isTy_tuple_tpx {b : List D} : isTy .tuple (.tpx b) = some true := (rfl)
@[simp] theorem isSq_tpx {b : List D} : isSq (.tpx b) = some true := (rfl)
@[simp] theorem isTp_tpx {ds : List D} : isTp (.tpx ds) = true := (rfl)
end
end Y

namespace Y
open PySem PySem.Spec PyProof.Rows L2
section
variable {K : PySem.W.Frag} {ct : CT} {ms : List Nat} {W : WX} {H0 R R' H H' : Hp} {vp : Nat → V} {ρ : Env} {σ : L2.St}
/-! ### a comprehension over a list in a slot, which stays one's own -/
def lcGoV (i : Nat) (step : D → Env → Option (Option D × Env)) (vs : List Nat) : Nat → Nat → List D → Env → Option (List D × Env)
  | 0, _, _, _ => none
  | n + 1, k, acc, ρ => match seqOf ρ[i]? with
    | none => none
    | some es => match es[k]? with
      | none => some (acc, ρ)
      | some d => if d.isO = true then none else match step d ρ with
        | none => none
        | some (some y, ρ1) => if acc.length < 100000 then lcGoV i step vs n (k + 1) (acc ++ [y]) (wipeE ρ1 vs) else none
        | some (none, ρ1) => lcGoV i step vs n (k + 1) acc (wipeE ρ1 vs)
def mLcV (i : Nat) (tg : D → Env → Option Env) (test : M Bool) (elt : M D) (vs : List Nat) : M D := mB (mGet fun ρ => seqOf ρ[i]?) fun ds ρ => match lcGoV i (lcStep tg test elt vs) vs (ds.length + 1) 0 [] (wipeE ρ vs) with
  | some (acc, ρ1) => .ok (.ols acc) ρ1
  | none => .st
theorem sim_lcV {i : Nat} {g : TG} {tt : TT} {te : TE} {vs : List Nat} {tg : D → Env → Option Env} {test : M Bool} {elt : M D} {sl : List Nat} (hg : SimG K ct ms vp g tg sl) (hs : ∀ i ∈ sl, i ∈ vs) (hv : ∀ v ∈ vs, v ∉ ms)
    (ht : SimT K ct ms vp WNo tt test) (he : SimF K ct ms vp WNo te elt) : SimE K ct ms vp W (tLc (iSeq K (tVar i)) g tt te vs) (mLcV i tg test elt vs) := fun H0 ρ σ R H ok Q q => by
  obtain ⟨ds, e0, q⟩ := Po.get (Po.bind q)
  obtain ⟨d0, e1, e2⟩ := seqOf_some e0
  obtain ⟨a, vs0, x0, y0, _⟩ := ok.seq e1 e2
  refine .inl ⟨.ref a, x0, a, rfl, ⟨vs0, sql0 y0⟩, fun P hP => ?_⟩
  have h0 : H0 P = none := ok.keep.free hP
  have r0 : R P = none := ok.same.free hP
  have okw : Ok K ct (upd H0 P (.lst [])) ms vp (wipeE ρ vs) σ R (upd H P (.lst [])) := (ok.guard hP).wipe hv rfl
  refine ⟨fun k m H => ∃ ρ R2 ws acc, Gr H0 R R2 ∧ R2 P = none ∧ Reps K ct.b R2 ws acc ∧ Ok K ct (upd H0 P (.lst ws)) ms vp ρ σ R2 H ∧
      Po K ct ms vp W H0 σ R (fun d ρ' => ∀ v R' H', Gr H0 R R' → Ok K ct H0 ms vp (ρ' ++ [some d]) (σ ++ [some v]) R' H' → ρ'.length = σ.length → Q v H')
        (match lcGoV i (lcStep tg test elt vs) vs m k acc ρ with | some (acc, ρ1) => .ok (.ols acc) ρ1 | none => .st),
    ⟨ds.length + 1, _, R, [], [], Gr.refl _ _, r0, .nil, okw, q⟩, ?_⟩
  rintro k m H2 ⟨ρ2, R2, ws, acc, g2, r2, ra, ok2, q2⟩
  match m, q2 with
  | 0, q2 => exact q2.elim
  | n + 1, q2 =>
  rw [lcGoV] at q2
  cases es0 : seqOf ρ2[i]? with
  | none => rw [es0] at q2; exact q2.elim
  | some es =>
    rw [es0] at q2
    dsimp only at q2
    obtain ⟨d1, f1, f2⟩ := seqOf_some es0
    obtain ⟨a', us, x1, y1, l1, rd⟩ := ok2.seq f1 f2
    cases x0.symm.trans x1
    cases ek : es[k]? with
    | none =>
      rw [ek] at q2
      have hk : us.length ≤ k := by rw [l1]; exact List.getElem?_eq_none_iff.mp ek
      exact .inl ⟨⟨us, sql0 y1, hk⟩, q2 (.ref P) R2 H2 g2 (ok2.unguard h0 r2 ra) ok2.len.symm⟩
    | some d =>
      rw [ek] at q2
      dsimp only at q2
      cases io : d.isO with
      | true => rw [if_pos io] at q2; exact q2.elim
      | false =>
      rw [if_neg (by rw [io]; exact Bool.false_ne_true)] at q2
      have hk : k < us.length := by rw [l1]; exact (List.getElem?_eq_some_iff.mp ek).1
      have eu : us[k]? = some us[k] := List.getElem?_eq_getElem hk
      have rx0 := rd k _ d eu ek io
      refine .inr ⟨⟨us, us[k], sql0 y1, eu⟩, fun H3 => ∃ ρ R2 ws acc, Gr H0 R R2 ∧ R2 P = none ∧ Reps K ct.b R2 ws acc ∧ Ok K ct (upd H0 P (.lst ws)) ms vp ρ σ R2 H3 ∧
        Po K ct ms vp W H0 σ R (fun d ρ' => ∀ v R' H', Gr H0 R R' → Ok K ct H0 ms vp (ρ' ++ [some d]) (σ ++ [some v]) R' H' → ρ'.length = σ.length → Q v H')
          (match lcGoV i (lcStep tg test elt vs) vs n (k + 1) acc ρ with | some (acc, ρ1) => .ok (.ols acc) ρ1 | none => .st),
        fun H3 w => ⟨n, by omega, w⟩, fun x H3 ⟨eH, y⟩ => ?_⟩
      subst eH
      have ex := y us (sql0 y1)
      rw [eu] at ex
      cases ex
      have rx := rx0
      have ok3 := ok2.wipe (σ' := L2.wipe σ vs) hv (wipe_wipe σ vs vs fun _ h => h)
      cases e : lcStep tg test elt vs d ρ2 with
      | none => rw [e] at q2; exact q2.elim
      | some zr =>
        obtain ⟨z, ρ6⟩ := zr
        rw [e] at q2
        try dsimp only at q2
        obtain ⟨ρ4, e4, hz⟩ := lcStep_some e
        refine hg _ _ _ R2 _ _ d ok3 rx _ ρ4 e4 fun σ4 ok4 w4 => ?_
        have w4' : L2.wipe σ4 vs = L2.wipe σ vs := (w4 vs hs).trans (wipe_wipe σ vs vs fun _ h => h)
        refine ⟨w4', ht _ ρ4 σ4 R2 _ ok4 _ ?_⟩
        rcases hz with ⟨e1, ez⟩ | ⟨y, ρ5, e1, e2, ez⟩
        · rw [e1]
          rw [ez] at q2
          intro R5 H5 g5 ok5
          exact ⟨wipeE ρ6 vs, R5, ws, acc, g2.trans g5.unguard, g5.still r2, ra.mono g5.1, ok5.wipe (σ' := σ) hv w4'.symm, q2⟩
        · rw [e1]
          rw [ez] at q2
          intro R5 H5 g5 ok5
          refine he _ ρ5 σ4 R5 H5 ok5 _ ?_
          rw [e2]
          intro v R6 H6 g6 ok6 r6
          dsimp only at q2
          by_cases hacc : acc.length < 100000
          · rw [if_pos hacc] at q2
            have gg := (g5.trans g6)
            have rP := gg.still r2
            exact ⟨ws, ok6.keep _ _ upd_same, by rw [ra.1]; exact Nat.lt_of_lt_of_le hacc (by decide), wipeE ρ6 vs, R6, ws ++ [v], acc ++ [y], g2.trans gg.unguard, rP, (ra.mono gg.1).snoc r6, (ok6.reguard rP).wipe (σ' := σ) hv w4'.symm, q2⟩
          · rw [if_neg hacc] at q2
            exact q2.elim
end
section
variable {ρ : Env}
def lvK (i : Nat) (tg : D → Env → Option Env) (test : M Bool) (elt : M D) (vs : List Nat) (ds : List D) (ρ : Env) : Res D := match lcGoV i (lcStep tg test elt vs) vs (ds.length + 1) 0 [] (wipeE ρ vs) with
  | some (acc, ρ1) => .ok (.ols acc) ρ1
  | none => .st
@[simp] theorem a_mLcV {i : Nat} {tg : D → Env → Option Env} {test : M Bool} {elt : M D} {vs : List Nat} : mLcV i tg test elt vs ρ = bK (oK (seqOf ρ[i]?) ρ) fun ds => lvK i tg test elt vs ds := by
  rw [mLcV, a_mB, a_mGet]
  rfl
theorem lcGoV_map {α : Type} {i : Nat} {step : D → Env → Option (Option D × Env)} {vs : List Nat} {ρ : Env} (g : α → D) (f : α → Option D) {xs : List α} (hi : seqOf ρ[i]? = some (xs.map g)) (ho : ∀ x, (g x).isO = false) (hs : ∀ x ∈ xs, ∃ ρ1, step (g x) ρ = some (f x, ρ1) ∧ wipeE ρ1 vs = ρ) (hl : xs.length ≤ 1000) :
    ∀ (n k : Nat) (acc : List D), n = xs.length + 1 - k → acc.length ≤ k → k ≤ xs.length → lcGoV i step vs n k acc ρ = some (acc ++ (xs.drop k).filterMap f, ρ)
  | 0, k, acc, hn, _, hk => by omega
  | n + 1, k, acc, hn, ha, hk => by
    rw [lcGoV, hi]
    dsimp only
    by_cases h : k < xs.length
    · have e1 : xs[k]? = some xs[k] := List.getElem?_eq_getElem h
      rw [List.getElem?_map, e1]
      dsimp only [Option.map_some]
      rw [if_neg (by rw [ho]; exact Bool.false_ne_true)]
      obtain ⟨ρ1, e2, e3⟩ := hs xs[k] (List.getElem_mem h)
      rw [e2, List.drop_eq_getElem_cons h, List.filterMap_cons]
      cases e4 : f xs[k] with
      | none =>
        dsimp only
        rw [e3]
        exact lcGoV_map g f hi ho hs hl n (k + 1) acc (by omega) (by omega) (by omega)
      | some y =>
        dsimp only
        rw [if_pos (by omega), e3, lcGoV_map g f hi ho hs hl n (k + 1) (acc ++ [y]) (by omega) (by simp; omega) (by omega)]
        simp
    · rw [List.getElem?_map, List.getElem?_eq_none (by omega), List.drop_eq_nil_of_le (by omega)]
      simp
end
end Y

namespace Y
open PySem PySem.Spec PyProof.Rows L2
section
variable {K : PySem.W.Frag} {ct : CT} {ms : List Nat} {W : WX} {H0 HG R R' H H' : Hp} {vp : Nat → V} {ρ : Env} {σ : L2.St}
/-! ### a comprehension whose items stay one's own -/
/-- what is gathered so far stands by as another's: HG -/
structure AccO (K : PySem.W.Frag) (b : CTB) (H0 HG R : Hp) (P : Addr) (ws : List V) (acc : List D) : Prop where
  same : Same H0 HG
  at_ : HG P = some (.lst ws)
  len : ws.length = acc.length
  own : ∃ G : Nat → Addr → Prop, (∀ (i : Nat) (v : V) (d : D), ws[i]? = some v → acc[i]? = some d → Own K b R HG (G i) v d) ∧ (∀ i c, G i c → c ≠ P ∧ R c = none ∧ H0 c = none ∧ HG c ≠ none) ∧ ∀ i j c, i ≠ j → G i c → ¬ G j c
theorem AccO.gr {b : CTB} {P : Addr} {ws : List V} {acc : List D} (a : AccO K b H0 HG R P ws acc) (g : Gr HG R R') : AccO K b H0 HG R' P ws acc := by
  obtain ⟨s, at_, l, G, g1, g2, g3⟩ := a
  refine ⟨s, at_, l, G, fun i v d x y => (g1 i v d x y).monoR g.1, fun i c h => ?_, g3⟩
  obtain ⟨x, y, z, w⟩ := g2 i c h
  refine ⟨x, ?_, z, w⟩
  cases q : R' c with
  | none => rfl
  | some o =>
    rcases g.2 c (by rw [q]; exact Option.some_ne_none _) with t | t
    · exact absurd y t
    · exact absurd t w
theorem AccO.push {P : Addr} {ws : List V} {acc : List D} {v : V} {d : D} (a : AccO K ct.b H0 HG R P ws acc) (ok : Ok K ct HG ms vp (ρ ++ [some d]) (σ ++ [some v]) R H) (l : ρ.length = σ.length) (hm : ∀ i ∈ ms, i < σ.length) (hP : R P = none) (h0 : H0 P = none) :
    ∃ HG', AccO K ct.b H0 HG' R P (ws ++ [v]) (acc ++ [d]) ∧ Ok K ct HG' ms vp ρ σ R (upd H P (.lst (ws ++ [v]))) := by
  classical
  obtain ⟨s, k, iv, l2, pi, F, f1, f2, f3⟩ := ok
  obtain ⟨as, aP, al, G, g1, g2, g3⟩ := a
  obtain ⟨u, ev, w⟩ := f1 ρ.length d (by simp)
  have eu : u = v := by rw [l] at ev; simpa using ev.symm
  subst eu
  have fP : ∀ i c, F i c → c ≠ P := fun i c h e => by
    have := (f3 i c h).2.2
    rw [e, aP] at this
    cases this
  have gF : ∀ i j c, G i c → ¬ F j c := fun i j c h f => (g2 i c h).2.2.2 (f3 j c f).2.2
  have nP : (if P = P then some (HO.lst (ws ++ [u])) else if F ρ.length P then H P else HG P) = some (.lst (ws ++ [u])) := if_pos rfl
  have nF : ∀ c, F ρ.length c → (if c = P then some (HO.lst (ws ++ [u])) else if F ρ.length c then H c else HG c) = H c := fun c h => by rw [if_neg (fP _ _ h), if_pos h]
  have nO : ∀ c, c ≠ P → ¬ F ρ.length c → (if c = P then some (HO.lst (ws ++ [u])) else if F ρ.length c then H c else HG c) = HG c := fun c h1 h2 => by rw [if_neg h1, if_neg h2]
  have oP : ∀ c o, H0 c = some o → c ≠ P := fun c o h e => by rw [e, h0] at h; cases h
  refine ⟨fun c => if c = P then some (HO.lst (ws ++ [u])) else if F ρ.length c then H c else HG c, ⟨fun c o h => ?_, nP, by simp [al], fun i c => (i < ws.length ∧ G i c) ∨ (i = ws.length ∧ F ρ.length c), fun i x y q1 q2 => ?_, fun i c h => ?_, fun i j c ne x y => ?_⟩, ⟨fun c o h => ?_, fun c o h => ?_, iv, by simpa using l2, fun i hi => ?_, fun i c => i < ρ.length ∧ F i c, fun i e h => ?_, fun i j c ne x y => f2 i j c ne x.2 y.2, fun i c h => ?_⟩⟩
  · have hc := as _ _ h
    have nf : ¬ F ρ.length c := fun f => by
      have := (f3 _ c f).2.2
      rw [hc] at this
      cases this
    try dsimp only
    rw [nO c (oP c o h) nf]
    exact hc
  · by_cases z : i < ws.length
    · rw [List.getElem?_append_left z] at q1
      rw [List.getElem?_append_left (by omega)] at q2
      refine ((g1 i x y q1 q2).monoH fun c o g q => ?_).monoF fun c g => .inl ⟨z, g⟩
      rw [nO c (g2 i c g).1 (gF i _ c g)]
      exact q
    · have z2 := (List.getElem?_eq_some_iff.mp q1).1
      have z3 : i = ws.length := by simp at z2; omega
      subst z3
      rw [List.getElem?_append_right (Nat.le_refl _)] at q1
      rw [al, List.getElem?_append_right (Nat.le_refl _)] at q2
      simp at q1 q2
      subst q1 q2
      refine (w.monoH fun c o g q => ?_).monoF fun c g => .inr ⟨rfl, g⟩
      rw [nF c g]
      exact q
  · rcases h with ⟨_, h⟩ | ⟨_, h⟩
    · obtain ⟨x, y, z, t⟩ := g2 i c h
      refine ⟨x, y, z, ?_⟩
      rw [nO c x (gF i _ c h)]
      exact t
    · obtain ⟨x, y, z⟩ := f3 _ c h
      refine ⟨fP _ _ h, x, ?_, ?_⟩
      · cases q : H0 c with
        | none => rfl
        | some o =>
          rw [as _ _ q] at z
          cases z
      · rw [nF c h]
        exact y
  · rcases x with ⟨x1, x⟩ | ⟨x1, x⟩ <;> rcases y with ⟨y1, y⟩ | ⟨y1, y⟩
    · exact g3 i j c ne x y
    · exact gF i _ c x y
    · exact gF j _ c y x
    · omega
  · rw [upd_ne fun e => by rw [e, hP] at h; cases h]
    exact s c o h
  · try dsimp only at h
    by_cases e : c = P
    · subst e
      rw [if_pos rfl] at h
      rw [upd_same]
      exact h
    · rw [upd_ne e]
      by_cases f : F ρ.length c
      · rw [nF c f] at h
        exact h
      · rw [nO c e f] at h
        exact k c o h
  · have q := pi i hi
    rw [List.getElem?_append_left (hm i hi)] at q
    exact q
  · have e1 := (List.getElem?_eq_some_iff.mp h).1
    obtain ⟨x, y, z⟩ := f1 i e (by rw [List.getElem?_append_left e1]; exact h)
    rw [List.getElem?_append_left (by omega)] at y
    exact ⟨x, y, (z.monoH fun c o g q => by rw [upd_ne (fP i c g)]; exact q).monoF fun c g => ⟨e1, g⟩⟩
  · obtain ⟨x, y, z⟩ := f3 i c h.2
    refine ⟨x, by rw [upd_ne (fP i c h.2)]; exact y, ?_⟩
    try dsimp only
    rw [nO c (fP i c h.2) (f2 i _ c (by omega) h.2)]
    exact z
theorem AccO.done {P : Addr} {ws : List V} {acc : List D} (a : AccO K ct.b H0 HG R P ws acc) (ok : Ok K ct HG ms vp ρ σ R H) (hP : R P = none) (h0 : H0 P = none) :
    Ok K ct H0 ms vp (ρ ++ [some (.ols acc)]) (σ ++ [some (.ref P)]) R H := by
  obtain ⟨s, k, iv, l, pi, F, f1, f2, f3⟩ := ok
  obtain ⟨as, aP, al, G, g1, g2, g3⟩ := a
  have fP : ∀ i c, F i c → c ≠ P := fun i c h e => by
    have := (f3 i c h).2.2
    rw [e, aP] at this
    cases this
  have gF : ∀ i j c, G i c → ¬ F j c := fun i j c h f => (g2 i c h).2.2.2 (f3 j c f).2.2
  have hp := k _ _ aP
  refine ⟨s, fun c o h => k c o (as c o h), iv, by simp [l], fun i hi => ?_, fun i c => (i < ρ.length ∧ F i c) ∨ (i = ρ.length ∧ (c = P ∨ ∃ n, G n c)), fun i e h => ?_, fun i j c ne x y => ?_, fun i c h => ?_⟩
  · have q := pi i hi
    rw [List.getElem?_append_left (List.getElem?_eq_some_iff.mp q).1]
    exact q
  · by_cases z : i < ρ.length
    · rw [List.getElem?_append_left z] at h
      obtain ⟨u, x, y⟩ := f1 i e h
      exact ⟨u, by rw [List.getElem?_append_left (by rw [l]; exact z)]; exact x, y.monoF fun c g => .inl ⟨z, g⟩⟩
    · have z2 : i = ρ.length := by
        have := (List.getElem?_eq_some_iff.mp h).1
        simp at this
        omega
      subst z2
      have : D.ols acc = e := by simpa using h
      subst this
      refine ⟨.ref P, by rw [← l]; simp, .ols G hp (.inr ⟨rfl, .inl rfl⟩) al (fun i v d x y => (g1 i v d x y).monoH fun c o g q => k c o q) (fun i c g => ⟨.inr ⟨rfl, .inr ⟨i, g⟩⟩, (g2 i c g).1⟩) g3⟩
  · rcases x with ⟨x1, x⟩ | ⟨x1, x⟩ <;> rcases y with ⟨y1, y⟩ | ⟨y1, y⟩
    · exact f2 i j c ne x y
    · rcases y with y | ⟨n, y⟩
      · exact fP i c x y
      · exact gF n i c y x
    · rcases x with x | ⟨n, x⟩
      · exact fP j c y x
      · exact gF n j c x y
    · omega
  · rcases h with ⟨_, h⟩ | ⟨_, h⟩
    · obtain ⟨x, y, z⟩ := f3 i c h
      refine ⟨x, y, ?_⟩
      cases q : H0 c with
      | none => rfl
      | some o =>
        rw [as _ _ q] at z
        cases z
    · rcases h with h | ⟨n, h⟩
      · subst h
        exact ⟨hP, by rw [hp]; exact Option.some_ne_none _, h0⟩
      · obtain ⟨x, y, z, t⟩ := g2 n c h
        refine ⟨y, fun q => ?_, z⟩
        exact t (k.free q)
theorem AccO.grow {b : CTB} {P : Addr} {ws : List V} {acc : List D} (a : AccO K b H0 HG R P ws acc) {Ra Rb : Hp} (g : Gr HG Ra Rb) : Gr H0 Ra Rb := ⟨g.1, fun c h => (g.2 c h).imp id fun z => a.same.free z⟩
theorem sim_lcO {wi : TI} {g : TG} {tt : TT} {te : TE} {vs : List Nat} {it : M (List D)} {tg : D → Env → Option Env} {test : M Bool} {elt : M D} {sl : List Nat} (hi : SimI K ct ms vp W wi it) (hg : SimG K ct ms vp g tg sl) (hs : ∀ i ∈ sl, i ∈ vs) (hv : ∀ v ∈ vs, v ∉ ms)
    (ht : SimT K ct ms vp WNo tt test) (he : SimE K ct ms vp WNo te elt) : SimE K ct ms vp W (tLc wi g tt te vs) (mLc it tg test elt vs) := fun H0 ρ σ R H ok Q q => by
  refine hi H0 ρ σ R H ok _ (Po.mono (Po.bind q) fun ds ρ1 q J R1 H1 g1 ok1 it P hP => ?_)
  have h0 : H0 P = none := ok1.keep.free hP
  have r0 : R1 P = none := ok1.same.free hP
  have okw : Ok K ct (upd H0 P (.lst [])) ms vp (wipeE ρ1 vs) σ R1 (upd H1 P (.lst [])) := (ok1.guard hP).wipe hv rfl
  have a0 : AccO K ct.b H0 (upd H0 P (.lst [])) R1 P [] [] := ⟨fun c o h => by rw [upd_ne fun e => by rw [e, h0] at h; cases h]; exact h, upd_same, rfl, fun _ _ => False, fun i v d h => by simp at h, fun _ _ h => h.elim, fun _ _ _ _ h => h.elim⟩
  refine ⟨fun i m H => m = ds.length - i ∧ i ≤ ds.length ∧ ∃ ρ R2 HG ws acc, Gr H0 R1 R2 ∧ R2 P = none ∧ AccO K ct.b H0 HG R2 P ws acc ∧ Ok K ct HG ms vp ρ σ R2 H ∧
      Po K ct ms vp W H0 σ R (fun d ρ' => ∀ v R' H', Gr H0 R R' → Ok K ct H0 ms vp (ρ' ++ [some d]) (σ ++ [some v]) R' H' → ρ'.length = σ.length → Q v H')
        (match lcGo (lcStep tg test elt vs) vs (ds.drop i) acc ρ with | some (acc, ρ1) => .ok (.ols acc) ρ1 | none => .st),
    ⟨ds.length, by omega, Nat.zero_le _, _, R1, _, [], [], Gr.refl _ _, r0, a0, okw, q⟩, ?_⟩
  rintro i m H2 ⟨rfl, hle, ρ2, R2, HG, ws, acc, g2, r2, ra, ok2, q2⟩
  obtain ⟨yes, no⟩ := it R2 H2 g2.1 ok2.same i
  by_cases hlt : i < ds.length
  · obtain ⟨go, yl⟩ := yes ds[i] (List.getElem?_eq_getElem hlt)
    refine .inr ⟨go, fun H3 => ∃ ρ R2 HG ws acc, Gr H0 R1 R2 ∧ R2 P = none ∧ AccO K ct.b H0 HG R2 P ws acc ∧ Ok K ct HG ms vp ρ σ R2 H3 ∧
      Po K ct ms vp W H0 σ R (fun d ρ' => ∀ v R' H', Gr H0 R R' → Ok K ct H0 ms vp (ρ' ++ [some d]) (σ ++ [some v]) R' H' → ρ'.length = σ.length → Q v H')
        (match lcGo (lcStep tg test elt vs) vs (ds.drop (i + 1)) acc ρ with | some (acc, ρ1) => .ok (.ols acc) ρ1 | none => .st),
      fun H3 w => ⟨ds.length - (i + 1), by omega, rfl, hlt, w⟩, fun x H3 y => ?_⟩
    obtain ⟨R3, ex, rx⟩ := yl x H3 y
    have ok3 := (ok2.ext ex).wipe (σ' := L2.wipe σ vs) hv (wipe_wipe σ vs vs fun _ h => h)
    have g3 : Gr HG R2 R3 := ok2.gr ex
    have PG : HG P ≠ none := by rw [ra.at_]; exact Option.some_ne_none _
    have still : ∀ {Ra Rb : Hp}, Gr HG Ra Rb → Ra P = none → Rb P = none := fun {Ra Rb} g h => by
      cases q : Rb P with
      | none => rfl
      | some o =>
        rcases g.2 P (by rw [q]; exact Option.some_ne_none _) with t | t
        · exact absurd h t
        · exact absurd t PG
    rw [List.drop_eq_getElem_cons hlt, lcGo] at q2
    cases e : lcStep tg test elt vs ds[i] ρ2 with
    | none => rw [e] at q2; exact q2.elim
    | some zr =>
      obtain ⟨z, ρ6⟩ := zr
      rw [e] at q2
      try dsimp only at q2
      obtain ⟨ρ4, e4, hz⟩ := lcStep_some e
      refine hg _ _ _ R3 H3 x ds[i] ok3 rx _ ρ4 e4 fun σ4 ok4 w4 => ?_
      have w4' : L2.wipe σ4 vs = L2.wipe σ vs := (w4 vs hs).trans (wipe_wipe σ vs vs fun _ h => h)
      refine ⟨w4', ht _ ρ4 σ4 R3 H3 ok4 _ ?_⟩
      rcases hz with ⟨e1, ez⟩ | ⟨y, ρ5, e1, e2, ez⟩
      · rw [e1]
        rw [ez] at q2
        intro R5 H5 g5 ok5
        have gg := (g3.trans g5)
        exact ⟨wipeE ρ6 vs, R5, HG, ws, acc, g2.trans (ra.grow gg), still gg r2, ra.gr gg, ok5.wipe (σ' := σ) hv w4'.symm, q2⟩
      · rw [e1]
        rw [ez] at q2
        intro R5 H5 g5 ok5
        refine he _ ρ5 σ4 R5 H5 ok5 _ ?_
        rw [e2]
        intro v R6 H6 g6 ok6 l6
        dsimp only at q2
        by_cases hacc : acc.length < 100000
        · rw [if_pos hacc] at q2
          have gg := ((g3.trans g5).trans g6)
          have rP := still gg r2
          obtain ⟨HG', a', ok'⟩ := (ra.gr gg).push ok6 l6 ok5.mslt rP h0
          exact ⟨ws, ok6.keep _ _ ra.at_, by rw [ra.len]; exact Nat.lt_of_lt_of_le hacc (by decide), wipeE ρ6 vs, R6, HG', ws ++ [v], acc ++ [y], g2.trans (ra.grow gg), rP, a', ok'.wipe (σ' := σ) hv w4'.symm, q2⟩
        · rw [if_neg hacc] at q2
          exact q2.elim
  · rw [List.drop_eq_nil_of_le (by omega), lcGo] at q2
    exact .inl ⟨no (by omega), q2 (.ref P) R2 H2 (g1.trans g2) (ra.done ok2 r2 h0) ok2.len.symm⟩
/-! ### a list of one's own within one: written and read at names -/
theorem Ok.innerW (ok : Ok K ct H0 ms vp ρ σ R H) {i n : Nat} {ds es : List D} (h : ρ[i]? = some (some (.ols ds))) (hn : ds[n]? = some (.ols es)) :
    ∃ a vs c ws, σ[i]? = some (some (.ref a)) ∧ H a = some (.lst vs) ∧ vs.length = ds.length ∧ vs[n]? = some (.ref c) ∧ H c = some (.lst ws) ∧ ws.length = es.length ∧
      (∀ (t : Nat) (w : V) (e : D), ws[t]? = some w → es[t]? = some e → e.isO = false → Rep K ct.b R w e) ∧
      ∀ (ws' : List V) (es' : List D), ws'.length = es'.length → (∀ (t : Nat) (w : V) (e : D), ws'[t]? = some w → es'[t]? = some e → Rep K ct.b R w e ∨ (ws[t]? = some w ∧ es[t]? = some e)) →
        Ok K ct H0 ms vp (ρ.set i (some (.ols (ds.set n (.ols es'))))) σ R (upd H c (.lst ws')) := by
  obtain ⟨s, k, iv, l, p, F, f1, f2, f3⟩ := ok
  obtain ⟨v, hv, w0⟩ := f1 i _ h
  cases w0 with
  | fz w0 => cases w0
  | @ols _ a vs _ G ha hF hl hc hG hd =>
    have nl : n < ds.length := (List.getElem?_eq_some_iff.mp hn).1
    obtain ⟨u, hu⟩ : ∃ u, vs[n]? = some u := ⟨_, List.getElem?_eq_getElem (by omega)⟩
    have w1 := hc n u _ hu hn
    cases w1 with
    | fz w1 => cases w1
    | @ols _ c ws _ G2 hc1 hF2 hl2 hc2 hG2 hd2 =>
      have ca : c ≠ a := (hG n c hF2).2
      have hFc : F i c := (hG n c hF2).1
      obtain ⟨rc, _, h0c⟩ := f3 i c hFc
      refine ⟨a, vs, c, ws, hv, ha, hl, hu, hc1, hl2, fun t w e x y z => (hc2 t w e x y).rep z, fun ws' es' hl' hw => ⟨fun b o q => ?_, fun b o q => ?_, iv, by simpa using l, p, F, fun j d q => ?_, f2, fun j b q => ?_⟩⟩
      · rw [upd_ne (ne_of_none q rc)]; exact s b o q
      · rw [upd_ne (ne_of_none q h0c)]; exact k b o q
      · by_cases z : j = i
        · subst z
          have hj : j < ρ.length := (List.getElem?_eq_some_iff.mp h).1
          rw [List.getElem?_set_self hj] at q
          cases q
          refine ⟨.ref a, hv, .ols G (by rw [upd_ne (Ne.symm ca)]; exact ha) hF (by simpa using hl) (fun m x y q1 q2 => ?_) hG hd⟩
          by_cases z : m = n
          · subst z
            rw [hu] at q1
            cases q1
            rw [List.getElem?_set_self nl] at q2
            cases q2
            refine .ols G2 upd_same hF2 hl' (fun t x y q1 q2 => ?_) hG2 hd2
            rcases hw t x y q1 q2 with r | ⟨o1, o2⟩
            · exact .fz r
            · exact (hc2 t x y o1 o2).monoH fun b o g q => by rw [upd_ne (hG2 t b g).2]; exact q
          · rw [List.getElem?_set_ne (Ne.symm z)] at q2
            refine (hc m x y q1 q2).monoH fun b o g q => ?_
            rw [upd_ne fun e => hd m n c z (by rw [← e]; exact g) hF2]
            exact q
        · rw [List.getElem?_set_ne (Ne.symm z)] at q
          obtain ⟨u, x, y⟩ := f1 j d q
          refine ⟨u, x, y.monoH fun b o g q' => ?_⟩
          rw [upd_ne fun e => f2 j i c z (by rw [← e]; exact g) hFc]
          exact q'
      · obtain ⟨x, y, z⟩ := f3 j b q
        refine ⟨x, ?_, z⟩
        by_cases e2 : b = c
        · rw [e2, upd_same]; exact Option.some_ne_none _
        · rw [upd_ne e2]; exact y
def intO : Option (Option D) → Option Int
  | some (some (.int i)) => some i
  | _ => none
theorem intO_some {x : Option (Option D)} {i : Int} (h : intO x = some i) : x = some (some (.int i)) := by
  unfold intO at h
  split at h
  · cases h; rfl
  · cases h
/-- name[j][k]: the outer items, the place in them, the inner items, the place there -/
def in2 (i j k : Nat) (ρ : Env) : Option (List D × Nat × List D × Nat) := match olsOf ρ[i]?, intO ρ[j]?, intO ρ[k]? with
  | some ds, some a, some b => match ixN ds.length a with
    | some n => match ds[n]? with
      | some (.ols es) => match ixN es.length b with
        | some m => some (ds, n, es, m)
        | none => none
      | _ => none
    | none => none
  | _, _, _ => none
theorem in2_some {i j k : Nat} {z : List D × Nat × List D × Nat} (h : in2 i j k ρ = some z) : ∃ a b, ρ[i]? = some (some (.ols z.1)) ∧ ρ[j]? = some (some (.int a)) ∧ ρ[k]? = some (some (.int b)) ∧ ixN z.1.length a = some z.2.1 ∧ z.1[z.2.1]? = some (.ols z.2.2.1) ∧ ixN z.2.2.1.length b = some z.2.2.2 := by
  unfold in2 at h
  split at h
  · rename_i ds a b h1 h2 h3
    split at h
    · rename_i n h4
      split at h
      · rename_i es h5
        split at h
        · rename_i m h6
          cases h
          exact ⟨a, b, olsOf_some h1, intO_some h2, intO_some h3, h4, h5, h6⟩
        · cases h
      · cases h
    · cases h
  · cases h
def mSetIx2 (i j k : Nat) (f : M D) : Stm := mThen f fun x => mThen (mGet fun ρ => in2 i j k ρ) fun z ρ => .nx (ρ.set i (some (.ols (z.1.set z.2.1 (.ols (z.2.2.1.set z.2.2.2 x))))))
theorem sim_setIx2 {i j k : Nat} {te : TE} {f : M D} (hf : SimF K ct ms vp W te f) : SimS K ct ms vp W (tAsg te (gSub (tOp (rIxA K) (tVar i) (tVar j)) (tVar k) rSetL)) (mSetIx2 i j k f) := fun H0 ρ σ R H ok D' q =>
  hf H0 ρ σ R H ok _ (Po.mono (PoS.bind q) fun x ρ1 q v R1 H1 g1 ok1 r1 => by
    obtain ⟨⟨ds, n, es, m⟩, e0, q⟩ := PoS.get q
    obtain ⟨a0, b0, e1, e2, e3, e4, e5, e6⟩ := in2_some e0
    obtain ⟨a, vs, c, ws, x1, x2, x3, x4, x5, x6, x7, put⟩ := ok1.innerW e1 e5
    obtain ⟨va, y1, y2⟩ := ok1.slot e2 rfl
    obtain ⟨vb, z1, z2⟩ := ok1.slot e3 rfl
    cases y2.int_inv
    cases z2.int_inv
    have at_ : atI vs a0 = some (.ref c) := by
      unfold atI
      rw [x3, e4]
      exact x4
    refine ⟨.ref a, x1, .int a0, y1, .inl ⟨a, vs, a0, .ref c, rfl, rfl, sql0 x2, at_, ?_⟩⟩
    refine ⟨.int b0, z1, c, ws, b0, m, rfl, rfl, x5, by rw [x6]; exact e6, q σ R1 _ g1 (put _ _ (by simp [x6]) fun t w e q1 q2 => ?_)⟩
    by_cases z : t = m
    · subst z
      have l1 := (List.getElem?_eq_some_iff.mp q1).1
      rw [List.length_set] at l1
      rw [List.getElem?_set_self l1] at q1
      rw [List.getElem?_set_self (by rw [← x6]; exact l1)] at q2
      cases q1
      cases q2
      exact .inl r1
    · rw [List.getElem?_set_ne (Ne.symm z)] at q1 q2
      exact .inr ⟨q1, q2⟩)
def mIx2 (i j k : Nat) : M D := mB (mGet fun ρ => in2 i j k ρ) fun z => mO (match z.2.2.1[z.2.2.2]? with | some d => if d.isO = true then none else some d | none => none)
theorem sim_ix2 {i j k : Nat} : SimF K ct ms vp W (tOp (rIxA K) (tOp (rIxA K) (tVar i) (tVar j)) (tVar k)) (mIx2 i j k) := fun H0 ρ σ R H ok Q q => by
  obtain ⟨⟨ds, n, es, m⟩, e0, q⟩ := Po.get (Po.bind q)
  obtain ⟨a0, b0, e1, e2, e3, e4, e5, e6⟩ := in2_some e0
  obtain ⟨a, vs, c, ws, x1, x2, x3, x4, x5, x6, x7, _⟩ := ok.innerW e1 e5
  obtain ⟨va, y1, y2⟩ := ok.slot e2 rfl
  obtain ⟨vb, z1, z2⟩ := ok.slot e3 rfl
  cases y2.int_inv
  cases z2.int_inv
  obtain ⟨d, e7, q⟩ := Po.opt q
  dsimp only at e7 e6
  split at e7
  · rename_i d' h7
    split at e7
    · cases e7
    · rename_i io
      cases e7
      have lm : m < es.length := (List.getElem?_eq_some_iff.mp h7).1
      have x6' : ws.length = es.length := x6
      obtain ⟨w0, wm⟩ : ∃ w0, ws[m]? = some w0 := ⟨_, List.getElem?_eq_getElem (show m < ws.length by omega)⟩
      have at_ : atI vs a0 = some (.ref c) := by
        have e4' : ixN ds.length a0 = some n := e4
        have x3' : vs.length = ds.length := x3
        unfold atI
        rw [x3', e4']
        exact x4
      have at2 : atI ws b0 = some w0 := by
        have e6' : ixN es.length b0 = some m := e6
        unfold atI
        rw [x6', e6']
        exact wm
      exact ⟨.ref a, x1, .int a0, y1, .inl ⟨a, vs, a0, .ref c, rfl, rfl, sql0 x2, at_, ⟨.int b0, z1, .inl ⟨c, ws, b0, _, rfl, rfl, sql0 x5, at2, q _ R H (Gr.refl _ _) ok (x7 m _ d wm h7 (by simpa using io))⟩⟩⟩⟩
  · cases e7
end
section
variable {ρ : Env}
@[simp] theorem a_mSetIx2 {i j k : Nat} {f : M D} : mSetIx2 i j k f ρ = tK (f ρ) fun x => mThen (mGet fun ρ => in2 i j k ρ) fun z ρ => .nx (ρ.set i (some (.ols (z.1.set z.2.1 (.ols (z.2.2.1.set z.2.2.2 x)))))) := a_mThen
@[simp] theorem a_mIx2 {i j k : Nat} : mIx2 i j k ρ = bK (oK (in2 i j k ρ) ρ) fun z => mO (match z.2.2.1[z.2.2.2]? with | some d => if d.isO = true then none else some d | none => none) := by rw [mIx2, a_mB, a_mGet]
end
end Y

namespace Y
open PySem PySem.Spec PyProof.Rows L2
section
variable {K : PySem.W.Frag} {ct : CT} {ms : List Nat} {W : WX} {H0 R R' H H' : Hp} {vp : Nat → V} {ρ : Env} {σ : L2.St}
/-! ### a dict keyed by tuples of integers in a field of an instance of one's own -/
def keyI : D → Option (List Int)
  | .tup ds => ds.mapM asI
  | _ => none
theorem keyI_some {d : D} {k : List Int} (h : keyI d = some k) : d = .tup (k.map D.int) := by
  cases d <;> simp only [keyI] at h <;> try (cases h; done)
  rw [ints_of h]
theorem mapM_asI : ∀ ns : List Int, (ns.map D.int).mapM asI = some ns
  | [] => rfl
  | n :: ns => by
    rw [List.map_cons, List.mapM_cons, mapM_asI ns]
    rfl
theorem keyI_tup (k : List Int) : keyI (.tup (k.map D.int)) = some k := mapM_asI k
def hasKI (k : List Int) (ks : List D) : Bool := ks.any fun d => keyI d == some k
theorem hasKI_es (k : List Int) (es : List EntI) : hasKI k (es.map fun e => D.tup (e.1.map D.int)) = hasI es k := by
  unfold hasKI hasI
  rw [List.any_map, Bool.eq_iff_iff, List.any_eq_true, decide_eq_true_iff, List.mem_map]
  constructor
  · rintro ⟨e, he, q⟩
    have q : (keyI (.tup (e.1.map D.int)) == some k) = true := q
    rw [keyI_tup] at q
    exact ⟨e, he, by simpa using q⟩
  · rintro ⟨e, he, q⟩
    refine ⟨e, he, ?_⟩
    show (keyI (.tup (e.1.map D.int)) == some k) = true
    rw [keyI_tup, q]
    simp
theorem rep_keyI {b : CTB} {v : V} {k : List Int} (h : Rep K b R v (.tup (k.map D.int))) : ∃ a, v = .ref a ∧ SqT K R a (k.map V.int) := by
  obtain ⟨a, vs, e, h1, h2⟩ := h.tup_inv
  cases h2.ints_inv
  exact ⟨a, e, h1⟩
theorem zip_idx {f : Str} : ∀ {ns : List Str} {vs : List V} {ds : List D} {d : D}, vs.length = ds.length → (ns.zip ds).lookup f = some d → ∃ v, vs[ns.idxOf f]? = some v ∧ ds[ns.idxOf f]? = some d ∧ (ns.zip vs).lookup f = some v
  | [], _, _, _, _, h => by simp at h
  | n :: ns, [], [], _, _, h => by simp at h
  | n :: ns, v :: vs, e :: ds, d, r, h => by
    rw [List.zip_cons_cons, List.lookup_cons] at h
    rw [List.idxOf_cons]
    by_cases q : f = n
    · subst q
      simp at h
      subst h
      exact ⟨v, by simp, by simp, by simp⟩
    · have q1 : (f == n) = false := beq_eq_false_iff_ne.mpr q
      have q2 : (n == f) = false := beq_eq_false_iff_ne.mpr fun z => q z.symm
      rw [q1] at h
      obtain ⟨u, h1, h2, h3⟩ := zip_idx (ns := ns) (vs := vs) (ds := ds) (by simpa using r) h
      refine ⟨u, by simpa [q2] using h1, by simpa [q2] using h2, ?_⟩
      rw [List.zip_cons_cons, List.lookup_cons, q1]
      exact h3
/-- a dict in a field of what is one's own -/
theorem Ok.dictF (ok : Ok K ct H0 ms vp ρ σ R H) {i c : Nat} {ns : List Str} {ds ks xs : List D} {f : Str} (hs : ct.b.slt c = false) (h : ρ[i]? = some (some (.oin c ns ds))) (hf : (ns.zip ds).lookup f = some (.odc 1 ks xs)) :
    ∃ a dx vs b es, σ[i]? = some (some (.ref a)) ∧ H a = some (.ins (ct.b.adr c) dx (ns.zip vs)) ∧ (ns.zip vs).lookup f = some (.ref b) ∧ H b = some (DicI b es) ∧ ks = es.map (fun e => D.tup (e.1.map D.int)) ∧ KeysI K R es ∧ Reps K ct.b R (es.map (·.2.2)) xs ∧
      ∀ (es' : List EntI) (xs' : List D), KeysI K R es' → Reps K ct.b R (es'.map (·.2.2)) xs' → Ok K ct H0 ms vp (ρ.set i (some (.oin c ns (ds.set (ns.idxOf f) (.odc 1 (es'.map fun e => D.tup (e.1.map D.int)) xs'))))) σ R (upd H b (DicI b es')) := by
  obtain ⟨s, k, iv, l, p, F, f1, f2, f3⟩ := ok
  obtain ⟨v, hv, w0⟩ := f1 i _ h
  cases w0 with
  | fz w0 => cases w0
  | osl hs' => rw [hs] at hs'; cases hs'
  | @oin _ a dx _ _ vs _ G hs' ha hF hn hl hc hG hd =>
    obtain ⟨u, h2, h3, h4⟩ := zip_idx hl hf
    generalize ns.idxOf f = n at *
    have w1 := hc n u _ h2 h3
    cases w1 with
    | fz w1 => cases w1
    | @odi _ b es _ _ hb hFb hk kb r =>
      have ba : b ≠ a := (hG n b hFb).2
      have hFi : F i b := (hG n b hFb).1
      obtain ⟨rb, _, h0b⟩ := f3 i b hFi
      refine ⟨a, dx, vs, b, es, hv, ha, h4, hb, hk, kb, r, fun es' xs' kb' r' => ⟨fun c o q => ?_, fun c o q => ?_, iv, by simpa using l, p, F, fun j d q => ?_, f2, fun j c q => ?_⟩⟩
      · rw [upd_ne (ne_of_none q rb)]; exact s c o q
      · rw [upd_ne (ne_of_none q h0b)]; exact k c o q
      · by_cases z : j = i
        · subst z
          have hj : j < ρ.length := (List.getElem?_eq_some_iff.mp h).1
          rw [List.getElem?_set_self hj] at q
          cases q
          refine ⟨.ref a, hv, .oin G hs (by rw [upd_ne (Ne.symm ba)]; exact ha) hF hn (by simpa using hl) (fun m x y q1 q2 => ?_) hG hd⟩
          by_cases z : m = n
          · subst z
            rw [h2] at q1
            cases q1
            have nl : m < ds.length := (List.getElem?_eq_some_iff.mp h3).1
            rw [List.getElem?_set_self nl] at q2
            cases q2
            exact .odi upd_same hFb rfl kb' r'
          · rw [List.getElem?_set_ne (Ne.symm z)] at q2
            refine (hc m x y q1 q2).monoH fun c o g q => ?_
            rw [upd_ne fun e => hd m n b z (by rw [← e]; exact g) hFb]
            exact q
        · rw [List.getElem?_set_ne (Ne.symm z)] at q
          obtain ⟨u', x, y⟩ := f1 j d q
          refine ⟨u', x, y.monoH fun c o g q' => ?_⟩
          rw [upd_ne fun e => f2 j i b z (by rw [← e]; exact g) hFi]
          exact q'
      · obtain ⟨x, y, z⟩ := f3 j c q
        refine ⟨x, ?_, z⟩
        by_cases e2 : c = b
        · rw [e2, upd_same]; exact Option.some_ne_none _
        · rw [upd_ne e2]; exact y
/-- the dict in field f -/
def dicF (f : Str) (z : List Str × List D) : Option (List D × List D) := match (z.1.zip z.2).lookup f with
  | some (.odc 1 ks xs) => some (ks, xs)
  | _ => none
theorem dicF_some {f : Str} {z : List Str × List D} {y : List D × List D} (h : dicF f z = some y) : (z.1.zip z.2).lookup f = some (.odc 1 y.1 y.2) := by
  unfold dicF at h
  split at h
  · cases h; assumption
  · cases h
/-- x in self.f, x not in self.f -/
def mInFD (neg : Bool) (i c : Nat) (f : Str) (g : M D) : M D := mB g fun x => mB (mO (keyI x)) fun k => mB (mGet fun ρ => oinOf c ρ[i]?) fun z => mB (mO (dicF f z)) fun y => mP (.bl (if neg = true then !hasKI k y.1 else hasKI k y.1))
theorem sim_inFD {neg : Bool} {i c : Nat} {f : Str} {tg : TE} {g : M D} (hs : ct.b.slt c = false) (hg : SimF K ct ms vp W tg g) (hc : Cls K (ct.b.adr c)) (hn : NoAttr K (ct.b.adr c) f) : SimF K ct ms vp W (tOp (rInI K neg) tg (tFld K (tVar i) f)) (mInFD neg i c f g) := fun H0 ρ σ R H ok Q q =>
  hg H0 ρ σ R H ok _ (Po.mono (Po.bind q) fun x ρ1 q v R1 H1 g1 ok1 r1 => by
    obtain ⟨k, e1, q⟩ := Po.opt (Po.bind q)
    obtain ⟨⟨ns, ds⟩, e2, q⟩ := Po.get (Po.bind q)
    obtain ⟨⟨ks, xs⟩, e3, q⟩ := Po.opt (Po.bind q)
    rw [keyI_some e1] at r1
    obtain ⟨kb, rfl, kt⟩ := rep_keyI r1
    obtain ⟨a, dx, vs, b, es, y1, y2, y3, y4, y5, y6, y7, _⟩ := ok1.dictF hs (oinOf_some e2) (dicF_some e3)
    refine ⟨.ref a, y1, a, _, dx, _, .ref b, rfl, y2, hc, hn, y3, kb, k, b, es, rfl, SqT.mono ok1.same kt, rfl, y4, fun e he => SqT.mono ok1.same (y6 e he), ?_⟩
    dsimp only at y5 q
    rw [y5, hasKI_es] at q
    exact q _ R1 H1 g1 ok1 (.bl _))
/-! self.f[name] = e -/
def keyO : Option (Option D) → Option (List Int)
  | some (some d) => keyI d
  | _ => none
theorem keyO_some {x : Option (Option D)} {k : List Int} (h : keyO x = some k) : x = some (some (.tup (k.map D.int))) := by
  unfold keyO at h
  split at h
  · rw [keyI_some h]
  · cases h
def stoD (k : List Int) (x : D) (y : List D × List D) : List D × List D :=
  if hasKI k y.1 = true then (y.1, (y.1.zip y.2).map fun p => if (keyI p.1 == some k) = true then x else p.2) else (y.1 ++ [.tup (k.map D.int)], y.2 ++ [x])
theorem sto_keys {es : List EntI} {k : List Int} {b : Addr} {v : V} {x : D} {xs : List D} : ((stoI es k b v).map fun e => D.tup (e.1.map D.int)) = (stoD k x (es.map (fun e => D.tup (e.1.map D.int)), xs)).1 := by
  unfold stoI stoD
  rw [hasKI_es]
  split
  · rw [List.map_map]
    refine List.map_congr_left fun e _ => ?_
    simp only [Function.comp_apply]
    unfold putI2
    split <;> rfl
  · rw [List.map_append]; rfl
theorem sto_reps {b' : CTB} {k : List Int} {b : Addr} {v : V} {x : D} (rv : Rep K b' R v x) {es : List EntI} {xs : List D} (r : Reps K b' R (es.map (·.2.2)) xs) : Reps K b' R ((stoI es k b v).map (·.2.2)) (stoD k x (es.map (fun e => D.tup (e.1.map D.int)), xs)).2 := by
  unfold stoI stoD
  rw [hasKI_es]
  split
  · have key : ∀ {es : List EntI} {xs : List D}, Reps K b' R (es.map (·.2.2)) xs → Reps K b' R ((es.map (putI2 k v)).map (·.2.2)) (((es.map fun e => D.tup (e.1.map D.int)).zip xs).map fun p => if (keyI p.1 == some k) = true then x else p.2) := by
      intro es
      induction es with
      | nil => intro xs _; simp; exact .nil
      | cons e es ih =>
        intro xs r
        cases xs with
        | nil => exact absurd r.1 (by simp)
        | cons y xs =>
          have h1 := r.head
          have h2 := ih r.tail
          simp only [List.map_cons, List.zip_cons_cons]
          refine Reps.cons ?_ h2
          rw [keyI_tup]
          unfold putI2
          by_cases q : e.1 = k
          · rw [if_pos q, if_pos (by simp [q])]
            exact rv
          · rw [if_neg q, if_neg (by simp [q])]
            exact h1
    exact key r
  · rw [List.map_append]
    exact r.snoc rv
def mSetFD (i c : Nat) (f : Str) (j : Nat) (g : M D) : Stm := mThen g fun x => mThen (mGet fun ρ => oinOf c ρ[i]?) fun z => mThen (mO (dicF f z)) fun y => mThen (mGet fun ρ => keyO ρ[j]?) fun k => mThen (mO (szok y.1.length)) fun _ ρ =>
  .nx (ρ.set i (some (.oin c z.1 (z.2.set (z.1.idxOf f) (.odc 1 (stoD k x y).1 (stoD k x y).2)))))
theorem sim_setFD {i j c : Nat} {f : Str} {te : TE} {g : M D} (hs : ct.b.slt c = false) (hg : SimF K ct ms vp W te g) (hc : Cls K (ct.b.adr c)) (hn : NoAttr K (ct.b.adr c) f) : SimS K ct ms vp W (tAsg te (gSub (tFld K (tVar i) f) (tVar j) (rSetI K))) (mSetFD i c f j g) := fun H0 ρ σ R H ok D' q =>
  hg H0 ρ σ R H ok _ (Po.mono (PoS.bind q) fun x ρ1 q v R1 H1 g1 ok1 r1 => by
    obtain ⟨⟨ns, ds⟩, e2, q⟩ := PoS.get q
    obtain ⟨⟨ks, xs⟩, e3, q⟩ := PoS.opt q
    obtain ⟨k, e4, q⟩ := PoS.get q
    obtain ⟨u, e5, q⟩ := PoS.opt q
    obtain ⟨a, dx, vs, b, es, y1, y2, y3, y4, y5, y6, y7, put⟩ := ok1.dictF hs (oinOf_some e2) (dicF_some e3)
    obtain ⟨vk, z1, z2⟩ := ok1.slot (keyO_some e4) rfl
    obtain ⟨kb, rfl, kt⟩ := rep_keyI z2
    dsimp only at y5 e5 q
    have le : es.length < sizeLine := by
      have := szok_lt e5
      rw [y5, List.length_map] at this
      exact this
    refine ⟨.ref a, y1, a, _, dx, _, .ref b, rfl, y2, hc, hn, y3, .ref kb, z1, b, kb, k, es, rfl, rfl, SqT.mono ok1.same kt, y4, fun e he => SqT.mono ok1.same (y6 e he), le, ?_⟩
    have kb' : KeysI K R1 (stoI es k kb v) := fun e he => by
      unfold stoI at he
      split at he
      · obtain ⟨e', h1, rfl⟩ := List.mem_map.mp he
        unfold putI2
        split
        · exact y6 e' h1
        · exact y6 e' h1
      · rcases List.mem_append.mp he with he | he
        · exact y6 e he
        · rw [List.mem_singleton.mp he]
          exact kt
    have ok2 := put (stoI es k kb v) (stoD k x (ks, xs)).2 kb' (by rw [y5]; exact sto_reps r1 y7)
    rw [sto_keys (x := x) (xs := xs), ← y5] at ok2
    exact q σ R1 _ g1 ok2)
/-! self.f[name] -/
def lookD (k : List Int) (y : List D × List D) : Option D := ((y.1.zip y.2).find? fun p => keyI p.1 == some k).map (·.2)
end
end Y

namespace Y
open PySem PySem.Spec PyProof.Rows L2
theorem op_inIA {X : Cx} {K : PySem.W.Frag} (hK : X.K = K) (hu : X.A.units + 1 < cLine) : OpR X (compareOp .In) (rInI K false) := by
  subst hK
  exact op_inI hu
theorem op_notInIA {X : Cx} {K : PySem.W.Frag} (hK : X.K = K) (hu : X.A.units + 1 < cLine) : OpR X (compareOp .NotIn) (rInI K true) := by
  subst hK
  exact op_notInI hu
theorem set_dicIA {X : Cx} {K : PySem.W.Frag} (hK : X.K = K) (hu : X.A.units + 1 < cLine) : PSet X (rSetI K) := by
  subst hK
  exact set_dicI hu
section
variable {K : PySem.W.Frag} {ct : CT} {ms : List Nat} {W : WX} {H0 R R' H H' : Hp} {vp : Nat → V} {ρ : Env} {σ : L2.St}
/-! ### a method of an instance in a slot, which is lent to it -/
def bRecvV (c : Nat) (m : Str) (i : Nat) (g : M (List Arg)) : M (List Arg) := mB (mGet fun ρ => oinOf c ρ[i]?) fun z => mB (mO (if m ∈ z.1 then none else some ())) fun _ => mB g fun as => mP (.inl i :: as)
theorem sim_recvV {c i : Nat} {m : Str} {t : TA} {g : M (List Arg)} (hs : ct.b.slt c = false) (hg : SimB K ct ms vp W t g) : SimB K ct ms vp W (tRecvD (ct.b.adr c) m (tVar i) t) (bRecvV c m i g) := fun H0 ρ σ R H ok Q q => by
  obtain ⟨⟨ns, ds⟩, e0, q⟩ := Po.get (Po.bind q)
  obtain ⟨u, e1, q⟩ := Po.opt (Po.bind q)
  obtain ⟨F, f1, _, _⟩ := ok.own
  obtain ⟨v, x, w⟩ := f1 i _ (oinOf_some e0)
  dsimp only at e1
  split at e1
  · cases e1
  · rename_i hm
    cases w with
    | fz w => cases w
    | osl hs' => rw [hs] at hs'; cases hs'
    | @oin _ a dx _ _ vs _ G hs' ha hF hn hl hc hG hd =>
      exact ⟨.ref a, x, a, dx, _, rfl, ha, zip_no hm, hg H0 ρ σ R H ok _ (Po.mono (Po.bind q) fun as ρ2 q ws R2 H2 g2 ok2 r2 => q _ R2 H2 g2 ok2 (.cons x r2))⟩
theorem sim_methDV {ms' : List Nat} {m : List D → Ans} {c i : Nat} {n : Str} {g : M (List Arg)} {t : TA} (hs : ct.b.slt c = false) (hg : SimB K ct ms vp W t g) : SimE K ct ms vp W (tMethD (ct.b.adr c) n (SpM K ct.b ms' m) (WE W) (tVar i) t) (mCall ms' m (bRecvV c n i g)) :=
  call_core (sim_recvV hs hg) fun σ vs H Q h => h
theorem sim_methDV0 {ms' : List Nat} {m : List D → Ans} {c i : Nat} {n : Str} {g : M (List Arg)} {t : TA} {E : L2.St → XK} (hs : ct.b.slt c = false) (hg : SimB K ct ms vp W t g) : SimE K ct ms vp W (tMethD (ct.b.adr c) n (SpM K ct.b ms' m) E (tVar i) t) (mCall ms' (noX m) (bRecvV c n i g)) :=
  call_core (S := fun σ vs H Q => SpM K ct.b ms' m vs H Q (E σ)) (sim_recvV hs hg) fun σ vs H Q h => h.noX (E σ)
def bRecv1V (c i : Nat) : M (List Arg) := mB (mGet fun ρ => oinOf c ρ[i]?) fun _ => mP [.inl i]
theorem sim_recv1V {c i : Nat} (hs : ct.b.slt c = false) : SimB K ct ms vp W (tRecv1 (ct.b.adr c) (tVar i)) (bRecv1V c i) := fun H0 ρ σ R H ok Q q => by
  obtain ⟨⟨ns, ds⟩, e0, q⟩ := Po.get (Po.bind q)
  obtain ⟨F, f1, _, _⟩ := ok.own
  obtain ⟨v, x, w⟩ := f1 i _ (oinOf_some e0)
  cases w with
  | fz w => cases w
  | osl hs' => rw [hs] at hs'; cases hs'
  | @oin _ a dx _ _ vs _ G hs' ha hF hn hl hc hG hd =>
    exact ⟨.ref a, x, a, rfl, .inr ⟨dx, _, ha⟩, q _ R H (Gr.refl _ _) ok (.cons x ⟨rfl, fun k v a x _ => by simp at x⟩)⟩
theorem sim_propXV {ms' : List Nat} {m : List D → Ans} {c i : Nat} {E : XK} (hs : ct.b.slt c = false) : SimE K ct ms vp W (tPropX (ct.b.adr c) (SpM K ct.b ms' m) E (tVar i)) (mCall ms' (noX m) (bRecv1V c i)) :=
  call_core (S := fun σ vs H Q => SpM K ct.b ms' m vs H Q E) (sim_recv1V hs) fun σ vs H Q h => h.noX E
end
section
variable {ρ : Env}
@[simp] theorem a_bRecv1V {c i : Nat} : bRecv1V c i ρ = bK (oK (oinOf c ρ[i]?) ρ) fun _ => mP [.inl i] := by rw [bRecv1V, a_mB, a_mGet]
@[simp] theorem a_bRecvV {c i : Nat} {m : Str} {g : M (List Arg)} : bRecvV c m i g ρ = bK (oK (oinOf c ρ[i]?) ρ) fun z => mB (mO (if m ∈ z.1 then none else some ())) fun _ => mB g fun as => mP (.inl i :: as) := by rw [bRecvV, a_mB, a_mGet]
end
end Y

namespace Y
open PySem PySem.Spec PyProof.Rows L2
section
variable {K : PySem.W.Frag} {ct : CT} {ms : List Nat} {W : WX} {H0 R R' H H' : Hp} {vp : Nat → V} {ρ : Env} {σ : L2.St}
/-! ### self.f.get(name), self.f.pop(name), {} -/
theorem look_some {b : CTB} {k : List Int} {x : D} : ∀ {es : List EntI} {xs : List D}, Reps K b R (es.map (·.2.2)) xs → lookD k (es.map (fun e => D.tup (e.1.map D.int)), xs) = some x → ∃ v, atI2 es k = some v ∧ Rep K b R v x
  | [], xs, _, h => by simp [lookD] at h
  | e :: es, xs, r, h => by
    cases xs with
    | nil => exact absurd r.1 (by simp)
    | cons y xs =>
      unfold lookD at h
      simp only [List.map_cons, List.zip_cons_cons] at h
      unfold atI2
      by_cases q : e.1 = k
      · rw [List.find?_cons_of_pos (by rw [keyI_tup]; simp [q])] at h
        rw [List.find?_cons_of_pos (by simpa using q)]
        cases h
        exact ⟨_, rfl, r.head⟩
      · rw [List.find?_cons_of_neg (by rw [keyI_tup]; simp [q])] at h
        rw [List.find?_cons_of_neg (by simpa using q)]
        exact look_some (es := es) r.tail h
theorem look_none {b : CTB} {k : List Int} : ∀ {es : List EntI} {xs : List D}, Reps K b R (es.map (·.2.2)) xs → lookD k (es.map (fun e => D.tup (e.1.map D.int)), xs) = none → atI2 es k = none
  | [], xs, _, _ => rfl
  | e :: es, xs, r, h => by
    cases xs with
    | nil => exact absurd r.1 (by simp)
    | cons y xs =>
      unfold lookD at h
      simp only [List.map_cons, List.zip_cons_cons] at h
      unfold atI2
      by_cases q : e.1 = k
      · rw [List.find?_cons_of_pos (by rw [keyI_tup]; simp [q])] at h
        cases h
      · rw [List.find?_cons_of_neg (by rw [keyI_tup]; simp [q])] at h
        rw [List.find?_cons_of_neg (by simpa using q)]
        exact look_none (es := es) r.tail h
def mGetFD (i c : Nat) (f : Str) (j : Nat) : M D := mB (mGet fun ρ => oinOf c ρ[i]?) fun z => mB (mO (dicF f z)) fun y => mB (mGet fun ρ => keyO ρ[j]?) fun k => mP ((lookD k y).getD .non)
theorem sim_getFD {i j c : Nat} {f : Str} (hs : ct.b.slt c = false) (hc : Cls K (ct.b.adr c)) (hn : NoAttr K (ct.b.adr c) f) : SimF K ct ms vp W (tBMI (rGetI K) (tFld K (tVar i) f) (tCons (tVar j) tNil)) (mGetFD i c f j) := fun H0 ρ σ R H ok Q q => by
  obtain ⟨⟨ns, ds⟩, e2, q⟩ := Po.get (Po.bind q)
  obtain ⟨⟨ks, xs⟩, e3, q⟩ := Po.opt (Po.bind q)
  obtain ⟨k, e4, q⟩ := Po.get (Po.bind q)
  obtain ⟨a, dx, vs, b, es, y1, y2, y3, y4, y5, y6, y7, _⟩ := ok.dictF hs (oinOf_some e2) (dicF_some e3)
  obtain ⟨vk, z1, z2⟩ := ok.slot (keyO_some e4) rfl
  obtain ⟨kb, rfl, kt⟩ := rep_keyI z2
  dsimp only at y5 q
  refine ⟨.ref a, y1, a, _, dx, _, .ref b, rfl, y2, hc, hn, y3, ⟨b, es, rfl, y4⟩, .ref kb, z1, b, kb, k, es, rfl, rfl, SqT.mono ok.same kt, y4, fun e he => SqT.mono ok.same (y6 e he), ?_⟩
  rw [y5] at q
  cases e : lookD k (es.map (fun e => D.tup (e.1.map D.int)), xs) with
  | none =>
    rw [e] at q
    rw [look_none y7 e]
    exact q _ R H (Gr.refl _ _) ok .non
  | some x =>
    rw [e] at q
    obtain ⟨v, e5, rv⟩ := look_some y7 e
    rw [e5]
    exact q _ R H (Gr.refl _ _) ok rv
/-! self.f.pop(name), name there -/
def delD (k : List Int) (y : List D × List D) : List D × List D := (((y.1.zip y.2).filter fun p => !(keyI p.1 == some k)).map (·.1), ((y.1.zip y.2).filter fun p => !(keyI p.1 == some k)).map (·.2))
theorem del_both {b : CTB} {k : List Int} : ∀ {es : List EntI} {xs : List D}, Reps K b R (es.map (·.2.2)) xs → (wthI es k).map (fun e => D.tup (e.1.map D.int)) = (delD k (es.map (fun e => D.tup (e.1.map D.int)), xs)).1 ∧ Reps K b R ((wthI es k).map (·.2.2)) (delD k (es.map (fun e => D.tup (e.1.map D.int)), xs)).2
  | [], xs, r => by
    have : xs = [] := List.eq_nil_of_length_eq_zero (by have := r.1; simpa using this.symm)
    subst this
    exact ⟨rfl, .nil⟩
  | e :: es, xs, r => by
    cases xs with
    | nil => exact absurd r.1 (by simp)
    | cons y xs =>
      obtain ⟨i1, i2⟩ := del_both (k := k) (es := es) r.tail
      unfold delD at i1 i2 ⊢
      unfold wthI at i1 i2 ⊢
      simp only [List.map_cons, List.zip_cons_cons]
      by_cases q : e.1 = k
      · rw [List.filter_cons_of_neg (by simpa using q), List.filter_cons_of_neg (by rw [keyI_tup]; simp [q])]
        exact ⟨i1, i2⟩
      · rw [List.filter_cons_of_pos (by simpa using q), List.filter_cons_of_pos (by rw [keyI_tup]; simp [q])]
        refine ⟨?_, ?_⟩
        · simp only [List.map_cons]
          rw [i1]
        · simp only [List.map_cons]
          exact Reps.cons r.head i2
def mPopFD (i c : Nat) (f : Str) (j : Nat) : M D := mB (mGet fun ρ => oinOf c ρ[i]?) fun z => mB (mO (dicF f z)) fun y => mB (mGet fun ρ => keyO ρ[j]?) fun k => mB (mO (lookD k y)) fun x => mB (mPut i (.oin c z.1 (z.2.set (z.1.idxOf f) (.odc 1 (delD k y).1 (delD k y).2)))) fun _ => mP x
theorem sim_popFD {i j c : Nat} {f : Str} (hs : ct.b.slt c = false) (hc : Cls K (ct.b.adr c)) (hn : NoAttr K (ct.b.adr c) f) : SimF K ct ms vp W (tBMI (rPopI K) (tFld K (tVar i) f) (tCons (tVar j) tNil)) (mPopFD i c f j) := fun H0 ρ σ R H ok Q q => by
  obtain ⟨⟨ns, ds⟩, e2, q⟩ := Po.get (Po.bind q)
  obtain ⟨⟨ks, xs⟩, e3, q⟩ := Po.opt (Po.bind q)
  obtain ⟨k, e4, q⟩ := Po.get (Po.bind q)
  obtain ⟨x, e6, q⟩ := Po.opt (Po.bind q)
  have q := Po.put q
  obtain ⟨a, dx, vs, b, es, y1, y2, y3, y4, y5, y6, y7, put⟩ := ok.dictF hs (oinOf_some e2) (dicF_some e3)
  obtain ⟨vk, z1, z2⟩ := ok.slot (keyO_some e4) rfl
  obtain ⟨kb, rfl, kt⟩ := rep_keyI z2
  dsimp only at y5 q e6
  rw [y5] at e6
  obtain ⟨v, e7, rv⟩ := look_some y7 e6
  obtain ⟨w1, w2⟩ := del_both (k := k) y7
  refine ⟨.ref a, y1, a, _, dx, _, .ref b, rfl, y2, hc, hn, y3, ⟨b, es, rfl, y4⟩, .ref kb, z1, b, kb, k, es, v, rfl, rfl, SqT.mono ok.same kt, y4, fun e he => SqT.mono ok.same (y6 e he), e7, ?_⟩
  have ok2 := put (wthI es k) (delD k (ks, xs)).2 (fun e he => y6 e (List.mem_filter.mp he).1) (by rw [y5]; exact w2)
  rw [w1, ← y5] at ok2
  exact q v R _ (Gr.refl _ _) ok2 rv
/-! len(self.f) -/
def mLenFD (i c : Nat) (f : Str) : M D := mB (mGet fun ρ => oinOf c ρ[i]?) fun z => mB (mO (dicF f z)) fun y => mP (.int (y.1.length : Nat))
theorem sim_lenFD {i c : Nat} {f : Str} (hs : ct.b.slt c = false) (hc : Cls K (ct.b.adr c)) (hn : NoAttr K (ct.b.adr c) f) : SimF K ct ms vp W (tCB (rLenI K) (tCons (tFld K (tVar i) f) tNil)) (mLenFD i c f) := fun H0 ρ σ R H ok Q q => by
  obtain ⟨⟨ns, ds⟩, e2, q⟩ := Po.get (Po.bind q)
  obtain ⟨⟨ks, xs⟩, e3, q⟩ := Po.opt (Po.bind q)
  obtain ⟨a, dx, vs, b, es, y1, y2, y3, y4, y5, y6, y7, _⟩ := ok.dictF hs (oinOf_some e2) (dicF_some e3)
  dsimp only at y5 q
  refine ⟨.ref a, y1, a, _, dx, _, .ref b, rfl, y2, hc, hn, y3, b, es, rfl, y4, fun e he => SqT.mono ok.same (y6 e he), ?_⟩
  rw [y5, List.length_map] at q
  exact q _ R H (Gr.refl _ _) ok (.int _)
def mNewDI : M D := mP (.odc 1 [] [])
theorem sim_newDI : SimE K ct ms vp W tDNewI mNewDI := fun H0 ρ σ R H ok Q q p hp => by
  have ex := Ext.heap (o := DicI p []) ok.same hp
  exact q (.ref p) R _ (Gr.refl _ _) (ok.add ex (G := fun b => b = p) (.odi upd_same rfl rfl (fun e he => nomatch he) .nil) fun b hb => by
    rw [hb]
    exact ⟨hp, ok.same.free hp, by rw [upd_same]; exact Option.some_ne_none _⟩) ok.len.symm
end
section
variable {ρ : Env}
@[simp] theorem a_mInFD {neg : Bool} {i c : Nat} {f : Str} {g : M D} : mInFD neg i c f g ρ = bK (g ρ) fun x => mB (mO (keyI x)) fun k => mB (mGet fun ρ => oinOf c ρ[i]?) fun z => mB (mO (dicF f z)) fun y => mP (.bl (if neg = true then !hasKI k y.1 else hasKI k y.1)) := a_mB
@[simp] theorem a_mSetFD {i c j : Nat} {f : Str} {g : M D} : mSetFD i c f j g ρ = tK (g ρ) fun x => mThen (mGet fun ρ => oinOf c ρ[i]?) fun z => mThen (mO (dicF f z)) fun y => mThen (mGet fun ρ => keyO ρ[j]?) fun k => mThen (mO (szok y.1.length)) fun _ ρ =>
  .nx (ρ.set i (some (.oin c z.1 (z.2.set (z.1.idxOf f) (.odc 1 (stoD k x y).1 (stoD k x y).2))))) := a_mThen
@[simp] theorem a_mGetFD {i c j : Nat} {f : Str} : mGetFD i c f j ρ = bK (oK (oinOf c ρ[i]?) ρ) fun z => mB (mO (dicF f z)) fun y => mB (mGet fun ρ => keyO ρ[j]?) fun k => mP ((lookD k y).getD .non) := by rw [mGetFD, a_mB, a_mGet]
@[simp] theorem a_mPopFD {i c j : Nat} {f : Str} : mPopFD i c f j ρ = bK (oK (oinOf c ρ[i]?) ρ) fun z => mB (mO (dicF f z)) fun y => mB (mGet fun ρ => keyO ρ[j]?) fun k => mB (mO (lookD k y)) fun x => mB (mPut i (.oin c z.1 (z.2.set (z.1.idxOf f) (.odc 1 (delD k y).1 (delD k y).2)))) fun _ => mP x := by rw [mPopFD, a_mB, a_mGet]
@[simp] theorem a_mLenFD {i c : Nat} {f : Str} : mLenFD i c f ρ = bK (oK (oinOf c ρ[i]?) ρ) fun z => mB (mO (dicF f z)) fun y => mP (.int (y.1.length : Nat)) := by rw [mLenFD, a_mB, a_mGet]
@[simp] theorem a_mNewDI : mNewDI ρ = .ok (.odc 1 [] []) ρ := (rfl)
end
end Y

namespace Y
open PySem PySem.Spec PyProof.Rows L2
section
variable {K : PySem.W.Frag} {ct : CT} {ms : List Nat} {W : WX} {H0 R R' H H' : Hp} {vp : Nat → V} {ρ : Env} {σ : L2.St}
/-! ### what stands in a slot, looked at: it stays one's own -/
theorem Ok.seen (ok : Ok K ct H0 ms vp ρ σ R H) {i : Nat} {d : D} (h : ρ[i]? = some (some d)) : ∃ v, σ[i]? = some (some v) ∧ Rep K ct.b H v d.fz := by
  obtain ⟨F, f1, _, _⟩ := ok.own
  obtain ⟨v, x, w⟩ := f1 i d h
  exact ⟨v, x, w.froze ok.same fun _ _ => rfl⟩
def isqV : Option (Option D) → Option Bool
  | some (some d) => isSq d.fz
  | _ => none
def mIsi2V (i : Nat) : M D := mB (mGet fun ρ => isqV ρ[i]?) fun b => mP (.bl b)
theorem sim_isi2V {i : Nat} : SimF K ct ms vp W (tCB (rIsiT K) (tCons (tVar i) (tCons (tTup (tCons (tC (.ty "list")) (tCons (tC (.ty "tuple")) tNil))) tNil))) (mIsi2V i) := fun H0 ρ σ R H ok Q q => by
  obtain ⟨r, e, q⟩ := Po.get (Po.bind q)
  obtain ⟨d, e0, e1⟩ : ∃ d, ρ[i]? = some (some d) ∧ isSq d.fz = some r := by
    unfold isqV at e
    split at e
    · exact ⟨_, by assumption, e⟩
    · cases e
  obtain ⟨v, x0, r1⟩ := ok.seen e0
  refine ⟨v, x0, by decide, fun p hp => ?_⟩
  have x := Ext.heap (o := .tup [.ty "list", .ty "tuple"]) ok.same hp
  have ok2 := ok.ext x
  have fin := q (.bl r) R _ (ok.gr x) ok2 (.bl r)
  obtain ⟨r0, e3, e4⟩ := Option.bind_eq_some_iff.mp e1
  obtain ⟨t, et⟩ := isTy_N e3
  have ty := tyN_ty et (r1.mono x.h)
  have k := tyN_k et e3
  cases r0 with
  | true =>
    cases e4
    exact r_isi2 upd_same ty (kit2 k (.inl rfl)) fin
  | false =>
    have k' := tyN_k et e4
    cases r with
    | true => exact r_isi2 upd_same ty (kit2t k k') fin
    | false => exact r_isi2 upd_same ty (kit2 k (.inr k')) fin
def isTyV (T : Ty) : Option (Option D) → Option Bool
  | some (some d) => isTy T d.fz
  | _ => none
def mIsiV (T : Ty) (i : Nat) : M D := mB (mGet fun ρ => isTyV T ρ[i]?) fun b => mP (.bl b)
theorem sim_isiV {T : Ty} {i : Nat} : SimF K ct ms vp W (tCB (rIsi K) (tCons (tVar i) (tCons (tC (.ty T.nm)) tNil))) (mIsiV T i) := fun H0 ρ σ R H ok Q q => by
  obtain ⟨r, e, q⟩ := Po.get (Po.bind q)
  obtain ⟨d, e0, e1⟩ : ∃ d, ρ[i]? = some (some d) ∧ isTy T d.fz = some r := by
    unfold isTyV at e
    split at e
    · exact ⟨_, by assumption, e⟩
    · cases e
  obtain ⟨v, x0, r1⟩ := ok.seen e0
  obtain ⟨t, et⟩ := isTy_N e1
  exact ⟨v, x0, r_isi (tyN_ty et r1) (tyN_k et e1) (q _ R H (Gr.refl _ _) ok (.bl _))⟩
/-- tuple(x), x in a slot -/
def mTupV (i : Nat) : M D := mB (mGet fun ρ => flSq ρ[i]?) fun ds => mP (.tup ds)
theorem noO_reps {vs : List V} {ds : List D} (no : ¬ ds.any D.isO = true) (l : vs.length = ds.length) (rd : ∀ (k : Nat) (v : V) (d : D), vs[k]? = some v → ds[k]? = some d → d.isO = false → Rep K ct.b R v d) : Reps K ct.b R vs ds :=
  ⟨l, fun k v d p q => rd k v d p q (by
    cases z : d.isO with
    | false => rfl
    | true => exact (no (List.any_eq_true.mpr ⟨d, List.mem_of_getElem? q, z⟩)).elim)⟩
theorem sim_tupV {i : Nat} : SimF K ct ms vp W (tCB (rTupleA K) (tCons (tVar i) tNil)) (mTupV i) := fun H0 ρ σ R H ok Q q => by
  obtain ⟨ds, e, q⟩ := Po.get (Po.bind q)
  unfold flSq at e
  obtain ⟨ds', e1, e2⟩ := Option.bind_eq_some_iff.mp e
  split at e2
  · cases e2
  · rename_i no
    cases e2
    unfold sqOf at e1
    cases e3 : seqOf ρ[i]? with
    | some es =>
      rw [e3] at e1
      cases e1
      obtain ⟨d, f1, f2⟩ := seqOf_some e3
      obtain ⟨a, vs, x, y, l, rd⟩ := ok.seq f1 f2
      have rs := noO_reps no l rd
      refine ⟨.ref a, x, a, vs, rfl, .inl ⟨sql0 y, fun p hp => ?_⟩⟩
      have x := Ext.new (o := .tup vs) ok.same hp
      exact q (.ref p) _ _ (ok.gr x) (ok.ext x) (.tup (.inl (.inl upd_same)) rs.1 (rs.mono x.r).2)
    | none =>
      rw [e3] at e1
      obtain ⟨v, a, r⟩ : ∃ v, σ[i]? = some (some v) ∧ Rep K ct.b R v (.tup ds) := by
        rcases tupOf_some e1 with h | h
        · exact ok.slot h rfl
        · obtain ⟨v, a, r⟩ := ok.slot h rfl
          exact ⟨v, a, r.tpx_tup⟩
      obtain ⟨p, vs, rfl, z, rs⟩ := r.tup_inv
      exact ⟨.ref p, a, p, vs, rfl, .inr ⟨SqT.mono ok.same z, q _ R H (Gr.refl _ _) ok r⟩⟩
/-! a walk over what stands in a slot -/
def forGoV (i : Nat) (tg : D → Env → Option Env) (body : Stm) : Nat → Nat → Env → Out
  | 0, _, _ => .st
  | n + 1, k, ρ => match seqOf ρ[i]? with
    | none => .st
    | some es => match es[k]? with
      | none => .nx ρ
      | some d => if d.isO = true then .st else match tg d ρ with
        | none => .st
        | some ρ1 => match body ρ1 with
          | .nx ρ2 => forGoV i tg body n (k + 1) ρ2
          | .ct ρ2 => forGoV i tg body n (k + 1) ρ2
          | .bk ρ2 => .nx ρ2
          | .rt d ρ2 => .rt d ρ2
          | .ex c x ρ2 => .ex c x ρ2
          | .st => .st
def mForV (i : Nat) (tg : D → Env → Option Env) (body : Stm) : Stm := fun ρ => match seqOf ρ[i]? with
  | some ds => forGoV i tg body (ds.length + 1) 0 ρ
  | none => mFor (mItA (mVar i)) tg body ρ
theorem sim_forV {i : Nat} {g : TG} {tb : TS} {tg : D → Env → Option Env} {body : Stm} {sl : List Nat} (hm : i ∈ ms) (hg : SimG K ct ms vp g tg sl) (hb : SimS K ct ms vp W tb body) : SimS K ct ms vp W (tFor (iSeq K (tVar i)) g tb) (mForV i tg body) := fun H0 ρ σ R H ok D' q => by
  unfold mForV at q
  cases e0 : seqOf ρ[i]? with
  | none => rw [e0] at q; exact sim_for (sim_seqI sim_var) hg hb H0 ρ σ R H ok D' q
  | some ds =>
    rw [e0] at q
    dsimp only at q
    obtain ⟨d0, e1, e2⟩ := seqOf_some e0
    obtain ⟨a, vs0, x0, y0, _⟩ := ok.seq e1 e2
    have pin : ∀ {H0 ρ σ R H}, Ok K ct H0 ms vp ρ σ R H → σ[i]? = some (some (vp i)) := fun ok => ok.pins i hm
    have pa : vp i = .ref a := by
      have := (pin ok).symm.trans x0
      injection this with this
      injection this
    refine .inl ⟨.ref a, x0, a, rfl, ⟨vs0, sql0 y0⟩, ?_⟩
    refine ⟨fun k m σ H => ∃ ρ R2, Gr H0 R R2 ∧ Ok K ct H0 ms vp ρ σ R2 H ∧ PoS K ct ms vp W H0 R2 D' (forGoV i tg body m k ρ), ⟨ds.length + 1, ρ, R, Gr.refl _ _, ok, q⟩, ?_⟩
    rintro k m σ2 H2 ⟨ρ2, R2, g2, ok2, q2⟩
    match m, q2 with
    | 0, q2 => exact q2.elim
    | n + 1, q2 =>
    rw [forGoV] at q2
    cases es0 : seqOf ρ2[i]? with
    | none => rw [es0] at q2; exact q2.elim
    | some es =>
      rw [es0] at q2
      dsimp only at q2
      obtain ⟨d1, f1, f2⟩ := seqOf_some es0
      obtain ⟨a', us, x1, y1, l1, rd⟩ := ok2.seq f1 f2
      have pa' := (pin ok2).symm.trans x1
      rw [pa] at pa'
      cases pa'
      cases ek : es[k]? with
      | none =>
        rw [ek] at q2
        have hk : us.length ≤ k := by rw [l1]; exact List.getElem?_eq_none_iff.mp ek
        exact .inl ⟨⟨us, sql0 y1, hk⟩, q2 σ2 R2 H2 (Gr.refl _ _) ok2⟩
      | some d =>
        rw [ek] at q2
        dsimp only at q2
        cases io : d.isO with
        | true => rw [if_pos io] at q2; exact q2.elim
        | false =>
        rw [if_neg (by rw [io]; exact Bool.false_ne_true)] at q2
        have hk : k < us.length := by rw [l1]; exact (List.getElem?_eq_some_iff.mp ek).1
        have eu : us[k]? = some us[k] := List.getElem?_eq_getElem hk
        have rx := rd k _ d eu ek io
        refine .inr ⟨⟨us, us[k], sql0 y1, eu⟩, fun σ3 H3 => ∃ ρ3 R3, Gr H0 R R3 ∧ Ok K ct H0 ms vp ρ3 σ3 R3 H3 ∧ PoS K ct ms vp W H0 R3 D' (forGoV i tg body n (k + 1) ρ3), fun σ3 H3 w => ⟨n, by omega, w⟩, fun x H3 ⟨eH, y⟩ => ?_⟩
        subst eH
        have ex := y us (sql0 y1)
        rw [eu] at ex
        cases ex
        cases e : tg d ρ2 with
        | none => rw [e] at q2; exact q2.elim
        | some ρ4 =>
          rw [e] at q2
          dsimp only at q2
          refine hg H0 ρ2 σ2 R2 _ _ d ok2 rx _ ρ4 e fun σ4 ok4 _ => hb H0 ρ4 σ4 R2 _ ok4 _ ?_
          cases e2 : body ρ4 with
          | nx ρ5 => rw [e2] at q2; exact fun σ5 R5 H5 g5 ok5 => ⟨ρ5, R5, g2.trans g5, ok5, PoS.gr g5 q2⟩
          | ct ρ5 => rw [e2] at q2; exact fun σ5 R5 H5 g5 ok5 => ⟨ρ5, R5, g2.trans g5, ok5, PoS.gr g5 q2⟩
          | bk ρ5 => rw [e2] at q2; exact q2
          | rt d ρ5 => rw [e2] at q2; exact q2
          | ex c x ρ5 => rw [e2] at q2; exact q2
          | st => rw [e2] at q2; exact q2
end
section
variable {ρ : Env}
@[simp] theorem isqV_some {d : D} : isqV (some (some d)) = isSq d.fz := (rfl)
@[simp] theorem isTyV_some {T : Ty} {d : D} : isTyV T (some (some d)) = isTy T d.fz := (rfl)
@[simp] theorem a_mIsi2V {i : Nat} : mIsi2V i ρ = bK (oK (isqV ρ[i]?) ρ) fun b => mP (.bl b) := by rw [mIsi2V, a_mB, a_mGet]
@[simp] theorem a_mIsiV {T : Ty} {i : Nat} : mIsiV T i ρ = bK (oK (isTyV T ρ[i]?) ρ) fun b => mP (.bl b) := by rw [mIsiV, a_mB, a_mGet]
@[simp] theorem a_mTupV {i : Nat} : mTupV i ρ = bK (oK (flSq ρ[i]?) ρ) fun ds => mP (.tup ds) := by rw [mTupV, a_mB, a_mGet]
@[simp] theorem flSq_tup {ds : List D} : flSq (some (some (.tup ds))) = noO ds := (rfl)
@[simp] theorem a_mForV_ols {i : Nat} {tg : D → Env → Option Env} {body : Stm} {ds : List D} (h : ρ[i]? = some (some (.ols ds))) : mForV i tg body ρ = forGoV i tg body (ds.length + 1) 0 ρ := by
  unfold mForV
  rw [h]
  rfl
@[simp] theorem a_mForV_tup {i : Nat} {tg : D → Env → Option Env} {body : Stm} {ds : List D} (h : ρ[i]? = some (some (.tup ds))) : mForV i tg body ρ = mLoop tg body ds ρ := by
  unfold mForV
  rw [h]
  show mFor (mItA (mVar i)) tg body ρ = _
  rw [a_mFor, a_mItA, a_mVar, h]
  rfl
/-- a walk whose body keeps the slots but for the name -/
theorem forGoV_nx {i : Nat} {tg : D → Env → Option Env} {body : Stm} {ds : List D} (I : Env → Prop) (hi : ∀ ρ, I ρ → seqOf ρ[i]? = some ds) (ho : ∀ d ∈ ds, d.isO = false)
    (hs : ∀ ρ d, I ρ → d ∈ ds → ∃ ρ1 ρ2, tg d ρ = some ρ1 ∧ (body ρ1 = .nx ρ2 ∨ body ρ1 = .ct ρ2) ∧ I ρ2) : ∀ (n k : Nat) (ρ : Env), I ρ → n = ds.length + 1 - k → k ≤ ds.length → ∃ ρ', forGoV i tg body n k ρ = .nx ρ' ∧ I ρ'
  | 0, k, ρ, _, hn, hk => by omega
  | n + 1, k, ρ, h, hn, hk => by
    rw [forGoV, hi ρ h]
    dsimp only
    by_cases hk2 : k < ds.length
    · have e1 : ds[k]? = some ds[k] := List.getElem?_eq_getElem hk2
      rw [e1]
      dsimp only
      rw [if_neg (by rw [ho _ (List.getElem_mem hk2)]; exact Bool.false_ne_true)]
      obtain ⟨ρ1, ρ2, t1, t2, t3⟩ := hs ρ ds[k] h (List.getElem_mem hk2)
      rw [t1]
      dsimp only
      obtain ⟨ρ', r1, r2⟩ := forGoV_nx I hi ho hs n (k + 1) ρ2 t3 (by omega) (by omega)
      refine ⟨ρ', ?_, r2⟩
      rcases t2 with t2 | t2 <;> rw [t2] <;> exact r1
    · rw [List.getElem?_eq_none (by omega)]
      exact ⟨ρ, rfl, h⟩
@[simp] theorem callD_n {m : List D → Ans} {ds : List D} {as : List Arg} {p q : Nat} {r : List Nat} (h1 : (brw 0 as).map (·.1) = p :: q :: r) (h2 : ((brw 0 as).map (·.2)).Nodup) : callD (p :: q :: r) m as ds ρ = cK (m ds) ((brw 0 as).map (·.2)) (p :: q :: r).length ρ := by
  unfold callD
  rw [if_pos ⟨h1, h2⟩]
end
end Y

namespace Y
open PySem PySem.Spec PyProof.Rows L2
def g_is_between : Stm :=
      (mSeq (mIfS (mOr (mTest (mIsi .bool (mVar 0))) (mNot (mTest (mIsi .int (mVar 0)))))
      (mRet (mP (.bl false)))
      mNext)
      (mRet (mChain oLe oLe (mVar 1) (mVar 0) (mVar 2))))
def m_is_between : List D → Ans := mkFn 3 3 [] g_is_between
def g_check_extent : Stm :=
      (mIfS (mNot (mTru (frz (mCall [] (noX m_is_between) (bCons (mVar 0) (bCons (mP (.int 1)) (bCons (mVar 1) bNil)))))))
      (mRaise0 1)
      mNext)
def m_check_extent : List D → Ans := mkFn 2 2 [] g_check_extent
def g_Shape_contains : Stm :=
      (mSeq (mIfS (mOr (mNot (mTest (mIsi .tuple (mVar 1)))) (mTest (mOp oNeA (mLenV 1) (mP (.int 2)))))
      (mRet (mP (.bl false)))
      mNext)
      (mSeq (mTo (kTup 2 (kCons (kName 2) (kCons (kName 3) kNil))) (mVar 1))
      (mRet (mAndV (frz (mCall [] (noX m_is_between) (bCons (mVar 2) (bCons (mP (.int 0)) (bCons (mOp oSub (mFld 0 "pages" (mVar 0)) (mP (.int 1))) bNil))))) (frz (mCall [] (noX m_is_between) (bCons (mVar 3) (bCons (mP (.int 0)) (bCons (mOp oSub (mFld 0 "slots" (mVar 0)) (mP (.int 1))) bNil)))))))))
def m_Shape_contains : List D → Ans := mkFn 2 4 [] g_Shape_contains
def g_check_address : Stm :=
      (mIfS (mTest (mYes true (mCall [] (noX m_Shape_contains) (bRecvIn 0 (mVar 0) (mVar 1)))))
      (mRaise1 3 (mCons (mVar 0) mNil))
      mNext)
def m_check_address : List D → Ans := mkFn 2 2 [] g_check_address
def g_check_row_1 : Stm :=
      (mIfS (mAnd (mTest (mOp oNotA (mVar 2) (mP .non))) (mNot (mTru (frz (mCall [] (noX m_is_between) (bCons (mVar 2) (bCons (mUn oNeg (mP (.int (1000000000000000000)))) (bCons (mP (.int (1000000000000000000))) bNil))))))))
      (mRaise1 4 (mCons (mVar 0) mNil))
      mNext)
def g_check_row : Stm :=
      (mSeq (mIfS (mOr (mNot (mTest (mIsi2V 0))) (mTest (mOp oNeA (mLenV 0) (mVar 1))))
      (mRaise1 4 (mCons (mVar 0) mNil))
      mNext)
      (mSeq (mForV 0 (kName 2)
      g_check_row_1)
      (mRet (mTupV 0))))
def m_check_row : List D → Ans := mkFn 2 3 [0] g_check_row
def g_stream : Stm :=
      (mRet (mLst (mCons (frz (mCbL oList (mCons (mVar 0) mNil))) (mCons (mP (.int 0)) (mCons (mP (.int 0)) (mCons (mP (.int 0)) mNil))))))
def m_stream : List D → Ans := mkFn 1 1 [] g_stream
def g_draw_1 : Stm :=
      (mSeq (mSet 4 (mOp oMod (mCb oInt (mCons (frz (mOp oAddA (frz (mOp oMulA (mVar 4) (mP (.int 48271)))) (frz (mOp oMulA (frz (mOp oAddA (frz (mOp oMulA (mVar 2) (mVar 2))) (mP (.int 5)))) (mP (.int 69621)))))) mNil)) (mP (.int 2147483647))))
      (mSet 4 (mOp oMod (mCb oInt (mCons (frz (mOp oAddA (frz (mOp oAddA (frz (mOp oMulA (frz (mOp oMulA (mVar 4) (mVar 4))) (mP (.int 40692)))) (frz (mOp oMulA (mVar 4) (mP (.int 1000000000039)))))) (mP (.int 7)))) mNil)) (mP (.int 2305843009213693951)))))
def g_draw_2 : Stm :=
      (mSeq (mSet 2 (mIxAV 0 (mP (.int 1))))
      (mSeq (mSet 3 (mOp oIxA (mIxAV 0 (mP (.int 0))) (mVar 2)))
      (mSeq (mSet 4 (mOp oAddA (frz (mOp oMulA (mP (.int 2)) (mCb oAbs (mCons (mVar 3) mNil)))) (mCb oInt (mCons (mOp oLt (mVar 3) (mP (.int 0))) mNil))))
      (mSeq (mIfS (mTest (mOp oLt (mVar 4) (frz (mOp oMulA (mP (.int 2)) (mOp oPow (mP (.int 10)) (mP (.int 18)))))))
      g_draw_1
      mNext)
      (mSeq (mSetIx 0 (frz (mOp oAddA (mVar 2) (mP (.int 1)))) (mP (.int 1)))
      (mSeq (mSetIx 0 (mVar 4) (mP (.int 2)))
      (mSetIx 0 (mP (.int 60)) (mP (.int 3)))))))))
def g_draw : Stm :=
      (mSeq (mIfS (mAnd (mOr (mTest (mOp oEqA (mIxAV 0 (mP (.int 2))) (mP (.int 0)))) (mTest (mOp oEqA (mIxAV 0 (mP (.int 3))) (mP (.int 0))))) (mTest (mOp oLt (mIxAV 0 (mP (.int 1))) (mCb oLen (mCons (mIxAV 0 (mP (.int 0))) mNil)))))
      g_draw_2
      mNext)
      (mSeq (mIfS (mTest (mOp oEqA (mIxAV 0 (mP (.int 3))) (mP (.int 0))))
      (mRet (mP (.int 0)))
      mNext)
      (mSeq (mSet 4 (mIxAV 0 (mP (.int 2))))
      (mSeq (mSetIx 0 (mOp oDiv (mVar 4) (mVar 1)) (mP (.int 2)))
      (mSeq (mSetIx 0 (mOp oSub (mIxAV 0 (mP (.int 3))) (mP (.int 1))) (mP (.int 3)))
      (mRet (mOp oMod (mCb oInt (mCons (mVar 4) mNil)) (mVar 1))))))))
def m_draw : List D → Ans := mkFn 2 5 [0] g_draw
def g_number : Stm :=
      (mSeq (mSet 2 (mCall [0] (noX m_draw) (bSlot 0 (bCons (mP (.int 4)) bNil))))
      (mSeq (mIfS (mTest (mOp oEqA (mVar 2) (mP (.int 3))))
      (mRet (mOp oSub (frz (mCall [0] (noX m_draw) (bSlot 0 (bCons (frz (mOp oAddA (frz (mOp oMulA (mP (.int 2)) (mVar 1))) (mP (.int 1)))) bNil)))) (mVar 1)))
      mNext)
      (mSeq (mIfS (mTest (mOp oEqA (mVar 2) (mP (.int 2))))
      (mRet (mOp oMulA (mOp oSub (mVar 1) (frz (mCall [0] (noX m_draw) (bSlot 0 (bCons (mP (.int 4)) bNil))))) (mOp oSub (mP (.int 1)) (frz (mOp oMulA (mP (.int 2)) (frz (mCall [0] (noX m_draw) (bSlot 0 (bCons (mP (.int 2)) bNil)))))))))
      mNext)
      (mRet (mOp oSub (frz (mCall [0] (noX m_draw) (bSlot 0 (bCons (mP (.int 13)) bNil)))) (mP (.int 6)))))))
def m_number : List D → Ans := mkFn 2 3 [0] g_number
def g_pool_1 : Stm :=
      (mIfS (mAnd (mTest (mOp oLt (mIxAV 4 (mVar 5)) (mOp oSub (mOp oPow (mP (.int 10)) (mP (.int 18))) (mP (.int 3))))) (mTest (mOp oEqA (frz (mCall [0] (noX m_draw) (bSlot 0 (bCons (mP (.int 2)) bNil)))) (mP (.int 0)))))
      (mDrop (mAppend 4 (mCons (frz (mOp oAddA (mIxAV 4 (mVar 5)) (frz (mCall [0] (noX m_draw) (bSlot 0 (bCons (mP (.int 3)) bNil)))))) mNil)))
      (mDrop (mAppend 4 (mCons (frz (mCall [0] (noX m_number) (bSlot 0 (bCons (mOp oSub (mOp oPow (mP (.int 10)) (mP (.int 18))) (mP (.int 1))) bNil)))) mNil))))
def g_pool_2 : Stm :=
      (mSeq (mSet 4 (mLst (mCons (frz (mCall [0] (noX m_number) (bSlot 0 (bCons (mOp oSub (mOp oPow (mP (.int 10)) (mP (.int 18))) (mP (.int 1))) bNil)))) mNil)))
      (mSeq (mFor (mRg1 (mCons (frz (mCall [0] (noX m_draw) (bSlot 0 (bCons (mOp oIxA (frz (mLst (mCons (mP (.int 8)) (mCons (mP (.int 7)) (mCons (mP (.int 2)) mNil))))) (mOp oSub (mVar 1) (mP (.int 1)))) bNil)))) mNil)) (kName 5)
      g_pool_1)
      (mDrop (mAppend 2 (mCons (mVar 4) mNil)))))
def g_pool : Stm :=
      (mSeq (mSet 2 (mLst mNil))
      (mSeq (mFor (mRg1 (mCons (mVar 1) mNil)) (kName 3)
      g_pool_2)
      (mRet (mVar 2))))
def m_pool : List D → Ans := mkFn 2 6 [0] g_pool
def g_row_1 : Stm :=
      (mSeq (mSet 4 (mCall [0] (noX m_draw) (bSlot 0 (bCons (mP (.int 8)) bNil))))
      (mIfS (mTest (mOp oEqA (mVar 4) (mP (.int 6))))
      (mDrop (mAppend 2 (mCons (mP .non) mNil)))
      (mIfS (mTest (mOp oEqA (mVar 4) (mP (.int 7))))
      (mDrop (mAppend 2 (mCons (frz (mCall [0] (noX m_number) (bSlot 0 (bCons (mOp oPow (mP (.int 10)) (mP (.int 18))) bNil)))) mNil)))
      (mDrop (mAppend 2 (mCons (mOp oSub (frz (mOp oAddA (mIxAV 3 (frz (mCall [0] (noX m_draw) (bSlot 0 (bCons (mLenV 3) bNil))))) (mOp oMod (mCb oInt (mCons (mVar 4) mNil)) (mP (.int 3))))) (mP (.int 1))) mNil))))))
def g_row : Stm :=
      (mSeq (mSet 2 (mLst mNil))
      (mSeq (mFor (mItA (mVar 1)) (kName 3)
      g_row_1)
      (mRet (mCb oTuple (mCons (mVar 2) mNil)))))
def m_row : List D → Ans := mkFn 2 5 [0] g_row
def g_sizes_1 : Stm :=
      (mSeq (mSet 5 (mCall [0] (noX m_draw) (bSlot 0 (bCons (mP (.int 6)) bNil))))
      (mIfS (mTest (mOp oEqA (mVar 5) (mP (.int 4))))
      (mDrop (mAppend 3 (mCons (mVar 4) mNil)))
      (mIfS (mTest (mOp oEqA (mVar 5) (mP (.int 5))))
      (mDrop (mAppend 3 (mCons (mP (.int 1)) mNil)))
      (mDrop (mAppend 3 (mCons (frz (mOp oAddA (mP (.int 1)) (frz (mCall [0] (noX m_draw) (bSlot 0 (bCons (mVar 4) bNil)))))) mNil))))))
def g_sizes : Stm :=
      (mSeq (mSet 3 (mLst mNil))
      (mSeq (mFor (mItA (frz (mLst (mCons (mVar 1) (mCons (mVar 2) (mCons (mP (.int 16)) (mCons (mP (.int 3)) mNil))))))) (kName 4)
      g_sizes_1)
      (mRet (mVar 3))))
def m_sizes : List D → Ans := mkFn 3 6 [0] g_sizes
def g_alike_1 : Stm :=
      (mDrop (mAppend 2 (mCons (frz (mLst (mCons (mIxAV 5 (mVar 7)) (mCons (mIxAV 6 (mVar 7)) mNil)))) mNil)))
def g_alike_2 : Stm :=
      (mSeq (mIfS (mOr (mNot (mTest (mIsi2 (mVar 5)))) (mTest (mOp oNeA (mIsi .list (mVar 5)) (mIsi .list (mVar 6)))))
      (mRet (mP (.bl false)))
      mNext)
      (mSeq (mIfS (mTest (mOp oNeA (mLenV 5) (mLenV 6)))
      (mRet (mP (.bl false)))
      mNext)
      (mFor (mRg1 (mCons (mLenV 6) mNil)) (kName 7)
      g_alike_1)))
def g_alike_3 : Stm :=
      (mSeq (mIfS (mTest (mOp oEqA (mLenV 2) (mP (.int 0))))
      (mRet (mP (.bl true)))
      mNext)
      (mSeq (mSet 4 (mPop 2))
      (mSeq (mSet 5 (mIxAV 4 (mP (.int 0))))
      (mSeq (mSet 6 (mIxAV 4 (mP (.int 1))))
      (mIfS (mTest (mIsi2 (mVar 6)))
      g_alike_2
      (mIfS (mTest (mOp oIsA (mVar 6) (mP .non)))
      (mIfS (mTest (mOp oNotA (mVar 5) (mP .non)))
      (mRet (mP (.bl false)))
      mNext)
      (mIfS (mTest (mIsi .bool (mVar 6)))
      (mIfS (mOr (mNot (mTest (mIsi .bool (mVar 5)))) (mTest (mOp oNeA (mVar 5) (mVar 6))))
      (mRet (mP (.bl false)))
      mNext)
      (mIfS (mTest (mIsi .int (mVar 6)))
      (mIfS (mOr (mNot (mTest (mIsi .int (mVar 5)))) (mOr (mTest (mIsi .bool (mVar 5))) (mTest (mOp oNeA (mVar 5) (mVar 6)))))
      (mRet (mP (.bl false)))
      mNext)
      (mIfS (mOr (mNot (mTest (mIsi .str (mVar 5)))) (mTest (mOp oNeA (mVar 5) (mVar 6))))
      (mRet (mP (.bl false)))
      mNext)))))))))
def g_alike : Stm :=
      (mSeq (mSet 2 (mLst (mCons (frz (mLst (mCons (mVar 0) (mCons (mVar 1) mNil)))) mNil)))
      (mSeq (mFor (mRg1 (mCons (mP (.int 6000)) mNil)) (kName 3)
      g_alike_3)
      (mRet (mP (.bl false)))))
def m_alike : List D → Ans := mkFn 2 8 [] g_alike
def g_first_free_1 : Stm :=
      (mIfS (mTest (mOp oIsA (mIxAV 0 (mVar 1)) (mP .non)))
      (mRet (mVar 1))
      mNext)
def g_first_free : Stm :=
      (mSeq (mFor (mRg1 (mCons (mLenV 0) mNil)) (kName 1)
      g_first_free_1)
      (mRet (mP .non)))
def m_first_free : List D → Ans := mkFn 1 2 [] g_first_free
def g_Shape_addresses : Stm :=
      (mRet (mLc2 (mRg1 (mCons (mFld 0 "pages" (mVar 0)) mNil)) (kName 1) (mP true) (mRg1 (mCons (mFld 0 "slots" (mVar 0)) mNil)) (kName 2) (mP true) (mTup (mCons (mVar 1) (mCons (mVar 2) mNil))) [1, 2] [2]))
def m_Shape_addresses : List D → Ans := mkFn 1 3 [] g_Shape_addresses
def g_Table_put_1 : Stm :=
      (mSeq (mSetFD 0 1 "_rows" 3 (mVar 2))
      (mRet (mVar 3)))
def g_Table_put_2 : Stm :=
      (mIfS (mTest (mInFD true 0 1 "_rows" (mVar 3)))
      g_Table_put_1
      mNext)
def g_Table_put : Stm :=
      (mSeq (mSet 2 (mCall [0] m_check_row (bSlot 1 (bCons (mFld 0 "columns" (mFldV 0 1 "shape")) bNil))))
      (mSeq (mFor (mItA (frz (mCall [] (noX m_Shape_addresses) (bRecvO 0 (mFldV 0 1 "shape") bNil)))) (kName 3)
      g_Table_put_2)
      (mRaise0 2)))
def m_Table_put : List D → Ans := mkFn 2 4 [0, 1] g_Table_put
def g_Table_row_at : Stm :=
      (mSeq (mDrop (frz (mCall [] m_check_address (bCons (mVar 1) (bCons (mFldV 0 1 "shape") bNil)))))
      (mRet (mGetFD 0 1 "_rows" 1)))
def m_Table_row_at : List D → Ans := mkFn 2 2 [0] g_Table_row_at
def g_put_right : Stm :=
      (mSeq (mSet 5 (mCall [0] (noX m_row) (bSlot 0 (bCons (mVar 1) bNil))))
      (mSeq (mSet 6 (mCbL oList (mCons (mVar 5) mNil)))
      (mSeq (mIfS (mTest (mOp oEqA (frz (mCall [0] (noX m_draw) (bSlot 0 (bCons (mP (.int 2)) bNil)))) (mP (.int 1))))
      (mSet 6 (mVar 5))
      mNext)
      (mSeq (mSet 7 (mPeek m_first_free (bSlot 3 bNil)))
      (mSeq (mSet 8 (mLst mNil))
      (mSeq (mTry (mSet 8 (mLst (mCons (frz (mCall [0, 1] m_Table_put (bRecvV 1 "put" 2 (bSlot 6 bNil)))) mNil)))
      9 (fitsD [2] 7) (fun c x => (mSet 8 (mLst (mCons (mP (.str "full")) (mCons (mIsN 2 true c x) (mCons (mIsN 2 false c x) mNil)))))))
      (mSeq (mIfS (mTest (mIsiV .list 6))
      (mSetIx 6 (mP .non) (mP (.int 0)))
      mNext)
      (mSeq (mIfS (mTest (mOp oIsA (mVar 7) (mP .non)))
      (mRet (mCall [] (noX m_alike) (bCons (mVar 8) (bCons (frz (mLst (mCons (mP (.str "full")) (mCons (mP (.bl true)) (mCons (mP (.bl false)) mNil))))) bNil))))
      mNext)
      (mSeq (mSetIx 3 (mVar 5) (mVar 7))
      (mSeq (mSet 10 (mTup (mCons (mOp oDiv (mVar 7) (mVar 4)) (mCons (mOp oMod (mCb oInt (mCons (mVar 7) mNil)) (mVar 4)) mNil))))
      (mRet (mAndV (frz (mCall [] (noX m_alike) (bCons (mVar 8) (bCons (frz (mLst (mCons (mVar 10) mNil))) bNil)))) (frz (mCall [] (noX m_alike) (bCons (frz (mCall [0] (noX m_Table_row_at) (bRecvV 1 "row_at" 2 (bCons (mVar 10) bNil)))) (bCons (mVar 5) bNil))))))))))))))))
def m_put_right : List D → Ans := noX (mkFn 5 11 [0, 2, 3] g_put_right)
def g_Table_init : Stm :=
      (mSeq (mSetFld 0 1 "shape" (mVar 1))
      (mSetFld 0 1 "_rows" mNewDI))
def m_Table_init : List D → Ans := mkFn 2 2 [0] g_Table_init
def g_Shape_init : Stm :=
      (mSeq (mDrop (frz (mCall [] m_check_extent (bCons (mVar 1) (bCons (mP (.int (16))) bNil)))))
      (mSeq (mDrop (frz (mCall [] m_check_extent (bCons (mVar 2) (bCons (mP (.int (8))) bNil)))))
      (mSeq (mDrop (frz (mCall [] m_check_extent (bCons (mVar 3) (bCons (mP (.int (16))) bNil)))))
      (mSeq (mDrop (frz (mCall [] m_check_extent (bCons (mVar 4) (bCons (mP (.int (3))) bNil)))))
      (mSeq (mSetSl 0 0 "pages" (mVar 1))
      (mSeq (mSetSl 0 0 "slots" (mVar 2))
      (mSeq (mSetSl 0 0 "chunk" (mVar 3))
      (mSetSl 0 0 "columns" (mVar 4)))))))))
def m_Shape_init : List D → Ans := mkFn 5 5 [0] g_Shape_init
def g_Table_take : Stm :=
      (mSeq (mDrop (frz (mCall [] m_check_address (bCons (mVar 1) (bCons (mFldV 0 1 "shape") bNil)))))
      (mSeq (mIfS (mTest (mInFD true 0 1 "_rows" (mVar 1)))
      (mRaise1 6 (mCons (mVar 1) mNil))
      mNext)
      (mRet (mPopFD 0 1 "_rows" 1))))
def m_Table_take : List D → Ans := mkFn 2 2 [0] g_Table_take
def g_Table_used : Stm :=
      (mRet (mLenFD 0 1 "_rows"))
def m_Table_used : List D → Ans := mkFn 1 1 [0] g_Table_used
def g_law_1 : Stm :=
      (mIfS (mNot (mTru (frz (mCall [] (noX m_alike) (bCons (frz (mCall [0] (noX m_Table_row_at) (bRecvV 1 "row_at" 5 (bCons (mTup (mCons (mOp oDiv (mVar 9) (mVar 3)) (mCons (mOp oMod (mCb oInt (mCons (mVar 9) mNil)) (mVar 3)) mNil))) bNil)))) (bCons (mIxAV 7 (mVar 9)) bNil))))))
      (mRet (mP (.bl false)))
      mNext)
def g_law_2 : Stm :=
      (mSeq (mIfS (mNot (mTru (frz (mCall [] (noX m_alike) (bCons (frz (mCall [0] (noX m_Table_take) (bRecvV 1 "take" 5 (bCons (mTup (mCons (mOp oDiv (mVar 10) (mVar 3)) (mCons (mOp oMod (mCb oInt (mCons (mVar 10) mNil)) (mVar 3)) mNil))) bNil)))) (bCons (mIxAV 7 (mVar 10)) bNil))))))
      (mRet (mP (.bl false)))
      mNext)
      (mSetIx 7 (mP .non) (mVar 10)))
def g_law_3 : Stm :=
      (mSeq (mSet 10 (mCall [0] (noX m_draw) (bSlot 1 (bCons (mVar 6) bNil))))
      (mSeq (mIfS (mAnd (mTest (mOp oEqA (frz (mCall [0] (noX m_draw) (bSlot 1 (bCons (mP (.int 2)) bNil)))) (mP (.int 0)))) (mTest (mOp oNotA (mIxAV 7 (mVar 10)) (mP .non))))
      g_law_2
      (mIfS (mNot (mTru (frz (mCall [0, 2, 3] (noX m_put_right) (bSlot 1 (bCons (mVar 4) (bSlot 5 (bSlot 7 (bCons (mVar 3) bNil)))))))))
      (mRet (mP (.bl false)))
      mNext))
      (mIfS (mNot (mTru (frz (mCall [] (noX m_alike) (bCons (frz (mCall [0] (noX m_Table_used) (bRecv1V 1 5))) (bCons (mCb oLen (mCons (frz (mLcV 7 (kName 11) (mTest (mOp oNotA (mVar 11) (mP .non))) (mVar 11) [11])) mNil)) bNil))))))
      (mRet (mP (.bl false)))
      mNext)))
def g_law_4 : Stm :=
      (mIfS (mNot (mTru (frz (mCall [0, 2, 3] (noX m_put_right) (bSlot 1 (bCons (mVar 4) (bSlot 5 (bSlot 7 (bCons (mVar 3) bNil)))))))))
      (mRet (mP (.bl false)))
      mNext)
def g_law : Stm :=
      (mSeq (mSet 1 (mCall [] (noX m_stream) (bCons (mVar 0) bNil)))
      (mSeq (mSet 2 (mCall [0] (noX m_sizes) (bSlot 1 (bCons (mP (.int 16)) (bCons (mP (.int 8)) bNil)))))
      (mSeq (mSet 3 (mIxAV 2 (mP (.int 1))))
      (mSeq (mSet 4 (mCall [0] (noX m_pool) (bSlot 1 (bCons (mIxAV 2 (mP (.int 3))) bNil))))
      (mSeq (mSet 5 (mMake 1 (noX m_Table_init) (bApp (bCons (frz (mMake 0 (noX m_Shape_init) (bKw 2 2 (bCons (mIxAV 2 (mP (.int 0))) (bCons (mVar 3) bNil)) (mCons (mIxAV 2 (mP (.int 2))) (mCons (mIxAV 2 (mP (.int 3))) mNil)) (fun as zs => as ++ (zs ++ ([] : List D).map Sum.inr))))) bNil) [])))
      (mSeq (mSet 6 (mOp oMulA (mIxAV 2 (mP (.int 0))) (mVar 3)))
      (mSeq (mSet 7 (mOp oMulA (frz (mLst (mCons (mP .non) mNil))) (mVar 6)))
      (mSeq (mSet 8 (mCall [0] (noX m_draw) (bSlot 1 (bCons (frz (mOp oAddA (mVar 6) (mP (.int 2)))) bNil))))
      (mSeq (mIfS (mTest (mOp oEqA (frz (mCall [0] (noX m_draw) (bSlot 1 (bCons (mP (.int 3)) bNil)))) (mP (.int 2))))
      (mSet 8 (mVar 6))
      mNext)
      (mSeq (mFor (mRg1 (mCons (mVar 8) mNil)) (kName 9)
      g_law_4)
      (mSeq (mFor (mRg1 (mCons (frz (mOp oAddA (mP (.int 1)) (frz (mCall [0] (noX m_draw) (bSlot 1 (bCons (mP (.int 12)) bNil)))))) mNil)) (kName 9)
      g_law_3)
      (mSeq (mFor (mRg1 (mCons (mVar 6) mNil)) (kName 9)
      g_law_1)
      (mRet (mP (.bl true)))))))))))))))
def m_law : List D → Ans := mkFn 1 12 [] g_law

/-! ## the law's stream -/
structure Strm' where
  ns : List Int
  p : Nat
  n : Int
  c : Int
def stD (s : Strm') : D := .ols [.lst (s.ns.map D.int), .int s.p, .int s.n, .int s.c]
def Strm'.Ok (s : Strm') : Prop := s.ns.length ≤ 63 ∧ s.p ≤ s.ns.length
def cellN (a : Int) (p : Nat) : Int :=
  let x := 2 * (if a < 0 then -a else a) + (if a < 0 then 1 else 0)
  if x < 2 * 10 ^ 18 then
    let y := (x * 48271 + ((p : Int) * p + 5) * 69621) % 2147483647
    (y * y * 40692 + y * 1000000000039 + 7) % 2305843009213693951
  else x
def fillS (s : Strm') : Strm' := if (s.n = 0 ∨ s.c = 0) ∧ s.p < s.ns.length then ⟨s.ns, s.p + 1, cellN (s.ns.getD s.p 0) s.p, 60⟩ else s
def drawV (s : Strm') (m : Int) : Int := if (fillS s).c = 0 then 0 else (fillS s).n % m
def drawS (s : Strm') (m : Int) : Strm' := if (fillS s).c = 0 then fillS s else ⟨s.ns, (fillS s).p, (fillS s).n / m, (fillS s).c - 1⟩
theorem fillS_ns (s : Strm') : (fillS s).ns = s.ns := by unfold fillS; split <;> rfl
theorem fillS_ok {s : Strm'} (h : s.Ok) : (fillS s).Ok := by
  unfold fillS
  split
  · rename_i q
    exact ⟨h.1, q.2⟩
  · exact h
@[simp] theorem drawS_ok {s : Strm'} (h : s.Ok) (m : Int) : (drawS s m).Ok := by
  have := fillS_ok h
  unfold drawS
  split
  · exact this
  · exact ⟨h.1, by have := this.2; rw [fillS_ns] at this; exact this⟩
theorem drawV_nn (s : Strm') {m : Int} (h : 0 < m) : 0 ≤ drawV s m := by
  unfold drawV
  split
  · exact Int.le_refl 0
  · exact Int.emod_nonneg _ (by omega)
theorem drawV_lt (s : Strm') {m : Int} (h : 0 < m) : drawV s m < m := by
  unfold drawV
  split
  · exact h
  · exact Int.emod_lt_of_pos _ h
def mixN (x : Int) (p : Nat) : Int := (((x * 48271 + ((p : Int) * p + 5) * 69621) % 2147483647) * ((x * 48271 + ((p : Int) * p + 5) * 69621) % 2147483647) * 40692 + ((x * 48271 + ((p : Int) * p + 5) * 69621) % 2147483647) * 1000000000039 + 7) % 2305843009213693951
theorem draw_mix {e0 e1 e3 : Option D} {x : Int} {p : Nat} (hp : p ≤ 63) : g_draw_1 [e0, e1, some (.int p), e3, some (.int x)] = .nx [e0, e1, some (.int p), e3, some (.int (mixN x p))] := by
  have sk1 : sml 48271 = true := sml_of (by omega)
  have sk2 : sml 69621 = true := sml_of (by omega)
  have sk3 : sml 40692 = true := sml_of (by omega)
  have sk4 : sml 1000000000039 = true := sml_of (by omega)
  have spp : sml (p : Int) = true := sml_of (by omega)
  have sy : sml ((x * 48271 + ((p : Int) * p + 5) * 69621) % 2147483647) = true := sml_of (by
    have := Int.emod_nonneg (x * 48271 + ((p : Int) * p + 5) * 69621) (show (2147483647 : Int) ≠ 0 by decide)
    have := Int.emod_lt_of_pos (x * 48271 + ((p : Int) * p + 5) * 69621) (show (0 : Int) < 2147483647 by decide)
    omega)
  unfold g_draw_1 mixN
  have o1 : (0 : Int) < 2147483647 := by decide
  have o2 : (0 : Int) < 2305843009213693951 := by decide
  generalize (2147483647 : Int) = M1 at o1 sy ⊢
  generalize (2305843009213693951 : Int) = M2 at o2 ⊢
  simp [sk1, sk2, sk3, sk4, spp, sy, o1, o2]
theorem draw_fill {e1 e2 e3 e4 : Option D} {ns : List Int} {p : Nat} {n c : Int} (hp : p ≤ 63) (hl : p < ns.length) :
    ∃ f2 f3 f4, g_draw_2 [some (stD ⟨ns, p, n, c⟩), e1, e2, e3, e4] = .nx [some (stD ⟨ns, p + 1, cellN (ns.getD p 0) p, 60⟩), e1, f2, f3, f4] := by
  have e0 : (ns.map D.int)[p]? = some (.int (ns.getD p 0)) := by simp [List.getElem?_map, List.getD, hl]
  generalize ns.getD p 0 = a at e0
  have s2 : sml 2 = true := sml_of (by omega)
  have s10 : oPow (.int 10) (.int 18) = some (.int (10 ^ 18)) := by simp [oPow]
  generalize ex : 2 * (if a < 0 then -a else a) + (if a < 0 then (1 : Int) else 0) = x
  have hx : cellN a p = if x < 2 * 10 ^ 18 then mixN x p else x := by rw [← ex]; rfl
  by_cases hb2 : x < 2000000000000000000
  · rw [if_pos (show x < 2 * 10 ^ 18 from hb2)] at hx
    simp [g_draw_2, stD, e0, s2, s10, ex, hb2, draw_mix hp, hx]
  · rw [if_neg (show ¬ x < 2 * 10 ^ 18 from hb2)] at hx
    simp [g_draw_2, stD, e0, s2, s10, ex, hb2, hx]
theorem lg_ok {m : Int} (h0 : 0 < m) (h : m ≤ 10000000000000000000) : m.natAbs.log2 < 9000 := by
  have h1 : m.natAbs ≠ 0 := by omega
  refine Nat.lt_trans ((Nat.log2_lt h1).mpr (show m.natAbs < 2 ^ 64 by have : (2 : Nat) ^ 64 = 18446744073709551616 := by decide
                                                                       omega)) (by decide)
@[simp] theorem draw_ok {s : Strm'} {m : Int} (hs : s.Ok) (hm : 0 < m) (hb' : m ≤ 10000000000000000000) : m_draw [stD s, .int m] = .ok (.int (drawV s m)) [stD (drawS s m)] := by
  have hb := lg_ok hm hb'
  obtain ⟨ns, p, n, c⟩ := s
  have hp : p ≤ 63 := Nat.le_trans hs.2 hs.1
  by_cases h1 : (n = 0 ∨ c = 0) ∧ p < ns.length
  · obtain ⟨h1, hl⟩ := h1
    have h2 : fillS ⟨ns, p, n, c⟩ = ⟨ns, p + 1, cellN (ns.getD p 0) p, 60⟩ := if_pos ⟨h1, hl⟩
    have v1 : drawV ⟨ns, p, n, c⟩ m = cellN (ns.getD p 0) p % m := by unfold drawV; rw [h2]; exact if_neg (show ¬ (60 : Int) = 0 by decide)
    have v2 : drawS ⟨ns, p, n, c⟩ m = ⟨ns, p + 1, cellN (ns.getD p 0) p / m, 59⟩ := by unfold drawS; rw [h2]; exact if_neg (show ¬ (60 : Int) = 0 by decide)
    rw [v1, v2]
    obtain ⟨f2, f3, f4, e⟩ := draw_fill (e1 := some (.int m)) (e2 := none) (e3 := none) (e4 := none) (n := n) (c := c) hp hl
    have l1 : (p : Int) < ns.length := by omega
    by_cases hn : n = 0
    · simp [m_draw, g_draw, stD] at e ⊢
      simp [hn, l1] at e ⊢
      simp [e, hm, hb]
    · have hc : c = 0 := h1.resolve_left hn
      simp [m_draw, g_draw, stD] at e ⊢
      simp [hn, hc, l1] at e ⊢
      simp [e, hm, hb]
  · have h2 : fillS ⟨ns, p, n, c⟩ = ⟨ns, p, n, c⟩ := if_neg h1
    by_cases hc : c = 0
    · subst hc
      have h3 : ¬ p < ns.length := fun z => h1 ⟨.inr rfl, z⟩
      by_cases hn : n = 0
      · subst hn
        simp [m_draw, g_draw, stD, drawV, drawS, h2, h3]
      · simp [m_draw, g_draw, stD, drawV, drawS, h2, h3, hn]
    · by_cases hn : n = 0
      · subst hn
        have h3 : ¬ p < ns.length := fun z => h1 ⟨.inl rfl, z⟩
        simp [m_draw, g_draw, stD, drawV, drawS, h2, h3, hc, hm, hb]
      · simp [m_draw, g_draw, stD, drawV, drawS, h2, hn, hc, hm, hb]
@[simp] theorem stream_ok (ns : List Int) (h : ns.length ≤ 63) : m_stream [.scr ns] = .ok (stD ⟨ns, 0, 0, 0⟩) [] := by
  simp [m_stream, g_stream, stD]
theorem stream_Ok {ns : List Int} (h : ns.length ≤ 63) : Strm'.Ok ⟨ns, 0, 0, 0⟩ := ⟨h, Nat.zero_le _⟩
@[simp] theorem isO_stD (s : Strm') : (stD s).isO = true := rfl

/-! ## the law's comparison: a plain value is alike to itself -/
mutual
def D.pln : D → Bool
  | .non => true | .bl _ => true | .int _ => true | .str _ => true
  | .lst ds => plns ds | .tup ds => plns ds
  | .ols _ => false | .ins _ _ _ => false | .scr _ => false | .dct _ _ _ => false | .odc _ _ _ => false | .oin _ _ _ => false | .fn _ => false | .cls _ => false | .tpx _ => false | .hole _ => false
def plns : List D → Bool
  | [] => true
  | d :: ds => d.pln && plns ds
end
mutual
def D.sz : D → Nat
  | .lst ds => 1 + szs ds | .tup ds => 1 + szs ds
  | .non => 1 | .bl _ => 1 | .int _ => 1 | .str _ => 1 | .ols _ => 1 | .ins _ _ _ => 1 | .scr _ => 1 | .dct _ _ _ => 1 | .odc _ _ _ => 1 | .oin _ _ _ => 1 | .fn _ => 1 | .cls _ => 1 | .tpx _ => 1 | .hole _ => 1
def szs : List D → Nat
  | [] => 0
  | d :: ds => d.sz + szs ds
end
theorem sz_pos (d : D) : 1 ≤ d.sz := by cases d <;> simp [D.sz] <;> omega
@[simp] theorem szs_nil : szs [] = 0 := by simp [szs]
@[simp] theorem szs_cons {d : D} {ds : List D} : szs (d :: ds) = d.sz + szs ds := by simp [szs]
@[simp] theorem szs_app {ds es : List D} : szs (ds ++ es) = szs ds + szs es := by
  induction ds with
  | nil => simp
  | cons d ds ih => simp [ih]; omega
theorem szs_len (ds : List D) : ds.length ≤ szs ds := by
  induction ds with
  | nil => simp
  | cons d ds ih => simp; have := sz_pos d; omega
theorem plns_all {ds : List D} : plns ds = true ↔ ∀ d ∈ ds, d.pln = true := by
  induction ds with
  | nil => simp [plns]
  | cons d ds ih => simp [plns, ih]
theorem pln_isO {d : D} (h : d.pln = true) : d.isO = false := by cases d <;> first | rfl | simp [D.pln] at h
theorem pln_fz {d : D} (h : d.pln = true) : d.fz = d := by cases d <;> first | (simp [D.fz]; done) | simp [D.pln] at h
def prD (x : D) : D := .lst [x, x]
theorem alike_push {told due kk e4 x : Option D} {ys ds : List D} {d : D} (hd : d = .lst ds ∨ d = .tup ds) (hp : plns ds = true) (hl : ys.length + ds.length ≤ 6000) :
    ∃ e7, mFor (mRg1 (mCons (mLenV 6) mNil)) (kName 7) g_alike_1 [told, due, some (.ols (ys.map prD)), kk, e4, some d, some d, x] = .nx [told, due, some (.ols ((ys ++ ds).map prD)), kk, e4, some d, some d, e7] := by
  have key := loop_nx (tg := kName 7) (body := g_alike_1) (I := fun i ρ => ∃ e7, ρ = [told, due, some (.ols ((ys ++ ds.take i).map prD)), kk, e4, some d, some d, e7])
    (ds := upto ds.length) (ρ := [told, due, some (.ols (ys.map prD)), kk, e4, some d, some d, x]) (k := 0) ⟨x, by simp⟩ (fun i c ρ hi ⟨e7, hρ⟩ => by
      subst hρ
      obtain ⟨hlt, h3⟩ := upto_at hi
      subst h3
      have e : ds[i]? = some ds[i] := List.getElem?_eq_getElem hlt
      have eo : ds[i].isO = false := pln_isO (plns_all.mp hp _ (List.getElem_mem hlt))
      have ef : ds[i].fz = ds[i] := pln_fz (plns_all.mp hp _ (List.getElem_mem hlt))
      have lz : ((ys ++ ds.take (0 + i)).map prD).length ≤ 100000 := by simp; omega
      have sz : szok ((ys ++ ds.take (0 + i)).map prD).length = some () := szok_of lz
      have tk : ds.take (0 + i + 1) = ds.take (0 + i) ++ [ds[i]] := by
        rw [Nat.zero_add, List.take_add_one, e]
        rfl
      refine ⟨[told, due, some (.ols ((ys ++ ds.take (0 + i)).map prD)), kk, e4, some d, some d, some (.int (i : Int))], _, rfl, .inl ?_, ⟨some (.int (i : Int)), rfl⟩⟩
      rw [tk, ← List.append_assoc, List.map_append (l₂ := [ds[i]])]
      generalize (ys ++ ds.take (0 + i)).map prD = zs at sz ⊢
      rcases hd with rfl | rfl <;> simp [g_alike_1, e, eo, ef, sz, prD])
  obtain ⟨ρ', e1, e7, h⟩ := key
  refine ⟨e7, ?_⟩
  have r : rg1 [.int (ds.length : Int)] = some (upto ds.length) := rg1_n (by omega)
  have e2 : ρ' = [told, due, some (.ols ((ys ++ ds).map prD)), kk, e4, some d, some d, e7] := by
    rw [h]
    simp
  rw [← e2, ← e1]
  rcases hd with rfl | rfl <;> simp [-rg1_int, r]
theorem alike_turn {told due kk e4 e5 e6 e7 : Option D} {ys : List D} {x : D} (hx : x.pln = true) (hl : ys.length + x.sz ≤ 6000) :
    ∃ zs f7, szs zs + 1 = x.sz ∧ plns zs = true ∧ g_alike_3 [told, due, some (.ols ((ys ++ [x]).map prD)), kk, e4, e5, e6, e7] = .nx [told, due, some (.ols ((ys ++ zs).map prD)), kk, some (prD x), some x, some x, f7] := by
  have ho := pln_isO hx
  have pl : popL ((ys ++ [x]).map prD) = some (prD x, ys.map prD) := by
    rw [List.map_append]
    exact popL_snoc rfl
  have hn : ¬ ((((ys ++ [x]).map prD).length : Nat) : Int) = 0 := by simp; omega
  generalize hz : (ys ++ [x]).map prD = z0 at pl hn
  have hn' : ¬ z0 = [] := by
    intro e
    rw [e] at hn
    exact hn rfl
  have seq : ∀ (ds : List D) (d : D), (d = .lst ds ∨ d = .tup ds) → x = d → x.sz = 1 + szs ds → plns ds = true → ∃ zs f7, szs zs + 1 = x.sz ∧ plns zs = true ∧ g_alike_3 [told, due, some (.ols z0), kk, e4, e5, e6, e7] = .nx [told, due, some (.ols ((ys ++ zs).map prD)), kk, some (prD x), some x, some x, f7] := by
    intro ds d hd ex es hp
    have hlen := szs_len ds
    obtain ⟨f7, e⟩ := alike_push (told := told) (due := due) (kk := kk) (e4 := some (prD x)) (x := e7) (ys := ys) (ds := ds) (d := d) hd hp (by omega)
    refine ⟨ds, f7, by omega, hp, ?_⟩
    subst ex
    rw [← e]
    rcases hd with rfl | rfl
    · simp [-a_mFor, g_alike_3, g_alike_2, hn, hn', pl, prD]
    · simp [-a_mFor, g_alike_3, g_alike_2, hn, hn', pl, prD]
  cases x with
  | non =>
    refine ⟨[], e7, by simp [D.sz], rfl, ?_⟩
    simp [g_alike_3, hn, hn', pl, prD]
  | bl b =>
    refine ⟨[], e7, by simp [D.sz], rfl, ?_⟩
    simp [g_alike_3, hn, hn', pl, prD]
  | int b =>
    refine ⟨[], e7, by simp [D.sz], rfl, ?_⟩
    simp [g_alike_3, hn, hn', pl, prD]
  | str b =>
    refine ⟨[], e7, by simp [D.sz], rfl, ?_⟩
    simp [g_alike_3, hn, hn', pl, prD]
  | lst ds => exact seq ds _ (.inl rfl) rfl (by simp [D.sz]) (by simpa [D.pln] using hx)
  | tup ds => exact seq ds _ (.inr rfl) rfl (by simp [D.sz]) (by simpa [D.pln] using hx)
  | _ => simp [D.pln] at hx
theorem alike_self {d : D} (hd : d.pln = true) (hs : d.sz ≤ 5999) : m_alike [d, d] = .ok (.bl true) [] := by
  have ho := pln_isO hd
  have hf := pln_fz hd
  have key := loop_or (tg := kName 3) (body := g_alike_3) (I := fun i ρ => ∃ xs e3 e4 e5 e6 e7, ρ = [some d, some d, some (.ols (xs.map prD)), e3, e4, e5, e6, e7] ∧ plns xs = true ∧ szs xs + i ≤ 5999) (L := fun o => ∃ ρ, o = .rt (.bl true) ρ)
    (ds := upto 6000) (ρ := [some d, some d, some (.ols [prD d]), none, none, none, none, none]) (k := 0)
    ⟨[d], none, none, none, none, none, rfl, by simp [plns, hd], by simpa using hs⟩ (fun i c ρ hi ⟨xs, e3, e4, e5, e6, e7, hρ, hp, hsz⟩ => by
      subst hρ
      refine ⟨_, rfl, ?_⟩
      rcases List.eq_nil_or_concat xs with e | ⟨ys, x, e⟩
      · subst e
        exact .inr (.inr ⟨.bl true, [some d, some d, some (.ols []), some c, e4, e5, e6, e7], by simp [g_alike_3], _, rfl⟩)
      · rw [List.concat_eq_append] at e
        subst e
        have hxp : x.pln = true := plns_all.mp hp x (by simp)
        have hyp : plns ys = true := plns_all.mpr fun z hz => plns_all.mp hp z (by simp [hz])
        have h1 : szs ys + x.sz + (0 + i) ≤ 5999 := by simpa using hsz
        have h2 := szs_len ys
        obtain ⟨zs, f7, z1, z2, z3⟩ := alike_turn (told := some d) (due := some d) (kk := some c) (e4 := e4) (e5 := e5) (e6 := e6) (e7 := e7) (ys := ys) hxp (by omega)
        refine .inl ⟨_, .inl z3, ys ++ zs, _, _, _, _, _, rfl, plns_all.mpr fun z hz => ?_, by rw [szs_app]; omega⟩
        rcases List.mem_append.mp hz with h | h
        · exact plns_all.mp hyp z h
        · exact plns_all.mp z2 z h)
  rcases key with ⟨ρ', _, xs, e3, e4, e5, e6, e7, _, _, hsz⟩ | ⟨ρ', h⟩
  · rw [upto_len] at hsz
    omega
  · have r : rg1 [.int 6000] = some (upto 6000) := rg1_n (n := 6000) (by omega)
    simp only [prD] at h
    simp [-rg1_int, m_alike, g_alike, ho, hf, r, h]

/-! ## the law's numbers and pools -/
theorem number_ok {s : Strm'} (hs : s.Ok) {m : Int} (h6 : 6 ≤ m) (hm : m ≤ 1000000000000000000) :
    ∃ v s', m_number [stD s, .int m] = .ok (.int v) [stD s'] ∧ s'.Ok ∧ -m ≤ v ∧ v ≤ m := by
  have s2 : sml 2 = true := sml_of (by omega)
  have b1 := drawV_nn s (m := 4) (by decide)
  have b2 := drawV_lt s (m := 4) (by decide)
  by_cases h3 : drawV s 4 = 3
  · have o1 : 0 < 2 * m + 1 := by omega
    have o2 : 2 * m + 1 ≤ 10000000000000000000 := by omega
    have c1 := drawV_nn (drawS s 4) (m := 2 * m + 1) o1
    have c2 := drawV_lt (drawS s 4) (m := 2 * m + 1) o1
    refine ⟨drawV (drawS s 4) (2 * m + 1) - m, drawS (drawS s 4) (2 * m + 1), ?_, drawS_ok (drawS_ok hs _) _, by omega, by omega⟩
    simp [m_number, g_number, hs, h3, s2, o1, o2]
  · by_cases h2 : drawV s 4 = 2
    · have c1 := drawV_nn (drawS s 4) (m := 4) (by decide)
      have c2 := drawV_lt (drawS s 4) (m := 4) (by decide)
      have d1 := drawV_nn (drawS (drawS s 4) 4) (m := 2) (by decide)
      have d2 := drawV_lt (drawS (drawS s 4) 4) (m := 2) (by decide)
      have e1 : sml (1 - 2 * drawV (drawS (drawS s 4) 4) 2) = true := sml_of (by omega)
      have e2 : (m - drawV (drawS s 4) 4) * (1 - 2 * drawV (drawS (drawS s 4) 4) 2) = m - drawV (drawS s 4) 4 ∨ (m - drawV (drawS s 4) 4) * (1 - 2 * drawV (drawS (drawS s 4) 4) 2) = -(m - drawV (drawS s 4) 4) := by
        have : drawV (drawS (drawS s 4) 4) 2 = 0 ∨ drawV (drawS (drawS s 4) 4) 2 = 1 := by omega
        rcases this with h | h <;> rw [h]
        · left; omega
        · right; omega
      refine ⟨(m - drawV (drawS s 4) 4) * (1 - 2 * drawV (drawS (drawS s 4) 4) 2), drawS (drawS (drawS s 4) 4) 2, ?_, drawS_ok (drawS_ok (drawS_ok hs _) _) _, by omega, by omega⟩
      simp (maxDischargeDepth := 20) [m_number, g_number, hs, h2, s2, e1]
    · have c1 := drawV_nn (drawS s 4) (m := 13) (by decide)
      have c2 := drawV_lt (drawS s 4) (m := 13) (by decide)
      refine ⟨drawV (drawS s 4) 13 - 6, drawS (drawS s 4) 13, ?_, drawS_ok (drawS_ok hs _) _, by omega, by omega⟩
      simp [m_number, g_number, hs, h2, h3, s2]
def plD (p : List (List Int)) : List D := p.map fun ns => .lst (ns.map D.int)
def PoolOk (p : List (List Int)) : Prop := ∀ ns ∈ p, 1 ≤ ns.length ∧ ns.length ≤ 8 ∧ ∀ n ∈ ns, -1000000000000000000 < n ∧ n < 1000000000000000000
theorem PoolOk.snoc {p : List (List Int)} {ns : List Int} (h : PoolOk p) (h1 : 1 ≤ ns.length) (h2 : ns.length ≤ 8) (h3 : ∀ n ∈ ns, -1000000000000000000 < n ∧ n < 1000000000000000000) : PoolOk (p ++ [ns]) := fun x hx => by
  rcases List.mem_append.mp hx with hx | hx
  · exact h x hx
  · rw [List.mem_singleton] at hx
    subst hx
    exact ⟨h1, h2, h3⟩
theorem pool_turn {s : Strm'} (hs : s.Ok) {w : Int} {e2 e3 : Option D} {ns : List Int} {k : Nat} (hk : k + 1 = ns.length) (hl : ns.length ≤ 7) (hn : ∀ n ∈ ns, -1000000000000000000 < n ∧ n < 1000000000000000000) :
    ∃ n s', s'.Ok ∧ (-1000000000000000000 < n ∧ n < 1000000000000000000) ∧ g_pool_1 [some (stD s), some (.int w), e2, e3, some (.ols (ns.map D.int)), some (.int (k : Int))] = .nx [some (stD s'), some (.int w), e2, e3, some (.ols ((ns ++ [n]).map D.int)), some (.int (k : Int))] := by
  have s10 : oPow (.int 10) (.int 18) = some (.int 1000000000000000000) := by simp [oPow]
  have hx : ns[k]? = some ns[k] := List.getElem?_eq_getElem (by omega)
  have hb := hn ns[k] (List.getElem_mem (by omega))
  generalize ns[k] = x at hx hb
  have e0 : (ns.map D.int)[k]? = some (.int x) := by rw [List.getElem?_map, hx]; rfl
  have hz : szok (ns.map D.int).length = some () := szok_of (by simp; omega)
  have hz' : szok ns.length = some () := szok_of (by omega)
  have num : ∀ {s : Strm'}, s.Ok → ∃ v s', m_number [stD s, .int 999999999999999999] = .ok (.int v) [stD s'] ∧ s'.Ok ∧ -999999999999999999 ≤ v ∧ v ≤ 999999999999999999 := fun hs => number_ok hs (by omega) (by omega)
  by_cases h1 : x < 999999999999999997
  · by_cases h2 : drawV s 2 = 0
    · have c1 := drawV_nn (drawS s 2) (m := 3) (by decide)
      have c2 := drawV_lt (drawS s 2) (m := 3) (by decide)
      refine ⟨x + drawV (drawS s 2) 3, drawS (drawS s 2) 3, drawS_ok (drawS_ok hs _) _, ⟨by omega, by omega⟩, ?_⟩
      simp (maxDischargeDepth := 20) [g_pool_1, s10, e0, hs, h1, h2, hz']
    · obtain ⟨v, s', e, o, b1, b2⟩ := num (drawS_ok hs 2)
      refine ⟨v, s', o, ⟨by omega, by omega⟩, ?_⟩
      simp (maxDischargeDepth := 20) [g_pool_1, s10, e0, hs, h1, h2, hz', e]
  · obtain ⟨v, s', e, o, b1, b2⟩ := num hs
    refine ⟨v, s', o, ⟨by omega, by omega⟩, ?_⟩
    simp (maxDischargeDepth := 20) [g_pool_1, s10, e0, hs, h1, hz', e]
def wq (w : Nat) : Nat := if w = 1 then 8 else if w = 2 then 7 else 2
theorem pool_col {s : Strm'} (hs : s.Ok) {w : Nat} (h1 : 1 ≤ w) (h3 : w ≤ 3) {e3 e4 e5 : Option D} {p : List (List Int)} (hp : PoolOk p) (hl : p.length ≤ 3) :
    ∃ ns s' f4 f5, s'.Ok ∧ PoolOk (p ++ [ns]) ∧ ns.length ≤ wq w ∧ g_pool_2 [some (stD s), some (.int (w : Int)), some (.ols (plD p)), e3, e4, e5] = .nx [some (stD s'), some (.int (w : Int)), some (.ols (plD (p ++ [ns]))), e3, f4, f5] := by
  have s10 : oPow (.int 10) (.int 18) = some (.int 1000000000000000000) := by simp [oPow]
  obtain ⟨v, s1, e, o1, b1, b2⟩ := number_ok hs (m := 999999999999999999) (by omega) (by omega)
  obtain ⟨q, hq, hq1, hq2, hqw⟩ : ∃ q : Int, atI ([D.int 8, .int 7, .int 2] : List D) ((w : Int) - 1) = some (.int q) ∧ 0 < q ∧ q ≤ 8 ∧ q = (wq w : Int) := by
    have : w = 1 ∨ w = 2 ∨ w = 3 := by omega
    rcases this with rfl | rfl | rfl
    · exact ⟨8, rfl, by decide, by decide, rfl⟩
    · exact ⟨7, rfl, by decide, by decide, rfl⟩
    · exact ⟨2, rfl, by decide, by decide, rfl⟩
  have d1 := drawV_nn s1 (m := q) hq1
  have d2 := drawV_lt s1 (m := q) hq1
  have hd : drawV s1 q = ((drawV s1 q).toNat : Int) := by omega
  have key := loop_nx (tg := kName 5) (body := g_pool_1) (I := fun i ρ => ∃ s2 ns f5, ρ = [some (stD s2), some (.int (w : Int)), some (.ols (plD p)), e3, some (.ols (ns.map D.int)), f5] ∧ s2.Ok ∧ ns.length = i + 1 ∧ ∀ n ∈ ns, -1000000000000000000 < n ∧ n < 1000000000000000000)
    (ds := upto (drawV s1 q).toNat) (ρ := [some (stD (drawS s1 q)), some (.int (w : Int)), some (.ols (plD p)), e3, some (.ols [.int v]), e5]) (k := 0) ⟨drawS s1 q, [v], e5, rfl, drawS_ok o1 _, rfl, fun n hn => by
      rw [List.mem_singleton] at hn
      subst hn
      omega⟩ (fun i c ρ hi ⟨s2, ns, f5, hρ, o2, hlen, hn⟩ => by
      obtain ⟨h4, h5⟩ := upto_at hi
      subst hρ
      subst h5
      obtain ⟨n, s3, o3, hb, e3'⟩ := pool_turn o2 (w := w) (e2 := some (.ols (plD p))) (e3 := e3) (ns := ns) (k := i) (by omega) (by omega) hn
      exact ⟨_, _, rfl, .inl e3', s3, ns ++ [n], _, rfl, o3, by simp [hlen], fun x hx => by
        rcases List.mem_append.mp hx with hx | hx
        · exact hn x hx
        · rw [List.mem_singleton] at hx
          subst hx
          exact hb⟩)
  obtain ⟨ρ', e2, s2, ns, f5, hρ, o2, hlen, hn⟩ := key
  subst hρ
  rw [upto_len] at hlen
  refine ⟨ns, s2, some (.lst (ns.map D.int)), f5, o2, hp.snoc (by omega) (by omega) hn, by omega, ?_⟩
  have r : rg1 [.int (drawV s1 q)] = some (upto (drawV s1 q).toNat) := by
    rw [hd]
    exact rg1_n (by omega)
  have hz : szok (plD p).length = some () := szok_of (by simp [plD]; omega)
  have q8 : q ≤ 10000000000000000000 := by omega
  simp (maxDischargeDepth := 20) [-rg1_int, g_pool_2, s10, e, hq, hq1, q8, o1, r, e2, hz]
  simp [plD]
theorem pool_okW {s : Strm'} (hs : s.Ok) {w : Nat} (h1 : 1 ≤ w) (h3 : w ≤ 3) :
    ∃ p s', m_pool [stD s, .int (w : Int)] = .ok (.lst (plD p)) [stD s'] ∧ s'.Ok ∧ PoolOk p ∧ p.length = w ∧ ∀ ns ∈ p, ns.length ≤ wq w := by
  have key := loop_nx (tg := kName 3) (body := g_pool_2) (I := fun i ρ => ∃ s2 p f3 f4 f5, ρ = [some (stD s2), some (.int (w : Int)), some (.ols (plD p)), f3, f4, f5] ∧ s2.Ok ∧ p.length = i ∧ PoolOk p ∧ ∀ ns ∈ p, ns.length ≤ wq w)
    (ds := upto w) (ρ := [some (stD s), some (.int (w : Int)), some (.ols []), none, none, none]) (k := 0) ⟨s, [], none, none, none, rfl, hs, rfl, (fun x hx => nomatch hx), (fun x hx => nomatch hx)⟩ (fun i c ρ hi ⟨s2, p, f3, f4, f5, hρ, o2, hlen, hp, hq⟩ => by
      obtain ⟨h4, h5⟩ := upto_at hi
      subst hρ
      subst h5
      obtain ⟨ns, s3, g4, g5, o3, hp', hq', e⟩ := pool_col o2 h1 h3 (e3 := some (.int (i : Int))) (e4 := f4) (e5 := f5) hp (by omega)
      exact ⟨_, _, rfl, .inl e, s3, p ++ [ns], _, _, _, rfl, o3, by simp [hlen], hp', fun x hx => by
        rcases List.mem_append.mp hx with hx | hx
        · exact hq x hx
        · rw [List.mem_singleton] at hx
          subst hx
          exact hq'⟩)
  obtain ⟨ρ', e2, s2, p, f3, f4, f5, hρ, o2, hlen, hp, hq⟩ := key
  subst hρ
  rw [upto_len] at hlen
  have r : rg1 [.int (w : Int)] = some (upto w) := rg1_n (by omega)
  have fp : fzs (plD p) = plD p := by simp [plD, fzs_eq, Function.comp_def]
  exact ⟨p, s2, by simp [-rg1_int, m_pool, g_pool, r, e2, fp], o2, hp, by omega, hq⟩
theorem pool_ok {s : Strm'} (hs : s.Ok) {w : Nat} (h1 : 1 ≤ w) (h3 : w ≤ 3) :
    ∃ p s', m_pool [stD s, .int (w : Int)] = .ok (.lst (plD p)) [stD s'] ∧ s'.Ok ∧ PoolOk p ∧ p.length = w := by
  obtain ⟨p, s', a, b, c, d, _⟩ := pool_okW hs h1 h3
  exact ⟨p, s', a, b, c, d⟩

/-! ## comprehensions over what is mapped -/
theorem lc_fmap {α : Type} {step : D → Env → Option (Option D × Env)} {vs : List Nat} {ρ : Env} (g : α → D) (f : α → Option D) : ∀ {xs : List α} {acc : List D}, (∀ x ∈ xs, ∃ ρ1, step (g x) ρ = some (f x, ρ1) ∧ wipeE ρ1 vs = ρ) → acc.length + xs.length ≤ 100000 → lcGo step vs (xs.map g) acc ρ = some (acc ++ xs.filterMap f, ρ)
  | [], acc, _, _ => by simp [lcGo]
  | x :: xs, acc, h, hl => by
    obtain ⟨ρ1, e, w⟩ := h x (by simp)
    have hl2 : acc.length + (xs.length + 1) ≤ 100000 := by simpa using hl
    rw [List.map_cons, lcGo, e]
    cases hf : f x with
    | none =>
      dsimp only
      rw [w, lc_fmap g f (fun y hy => h y (by simp [hy])) (by omega)]
      simp [hf]
    | some y =>
      dsimp only
      rw [if_pos (by omega), w, lc_fmap g f (fun y hy => h y (by simp [hy])) (by simp; omega)]
      simp [hf]
theorem fm_filter {α β : Type} (p : α → Bool) (g : α → β) : ∀ xs : List α, xs.filterMap (fun x => if p x = true then some (g x) else none) = (xs.filter p).map g
  | [] => rfl
  | x :: xs => by
    by_cases h : p x = true
    · simp [h, fm_filter p g xs]
    · simp [h, fm_filter p g xs]
theorem fm_map {α β : Type} (g : α → β) : ∀ xs : List α, xs.filterMap (fun x => some (g x)) = xs.map g
  | [] => rfl
  | x :: xs => by simp

/-! ## one item of a comprehension -/
theorem lcStep_no {tg : D → Env → Option Env} {t : M Bool} {el : M D} {vs : List Nat} {d : D} {ρ ρ1 ρ2 : Env} (h1 : tg d (wipeE ρ vs) = some ρ1) (h2 : t ρ1 = .ok false ρ2) : lcStep tg t el vs d ρ = some (none, ρ2) := by
  unfold lcStep
  rw [h1]
  dsimp only
  rw [h2]
theorem lcStep_yes {tg : D → Env → Option Env} {t : M Bool} {el : M D} {vs : List Nat} {d y : D} {ρ ρ1 ρ2 ρ3 : Env} (h1 : tg d (wipeE ρ vs) = some ρ1) (h2 : t ρ1 = .ok true ρ2) (h3 : el ρ2 = .ok y ρ3) : lcStep tg t el vs d ρ = some (some y, ρ3) := by
  unfold lcStep
  rw [h1]
  dsimp only
  rw [h2]
  dsimp only
  rw [h3]

/-! ## rows of integers -/
abbrev Mat := List (List Int)
def lsI (r : List Int) : D := .lst (r.map D.int)
def tpI (r : List Int) : D := .tup (r.map D.int)
@[simp] theorem lsI_isO (r : List Int) : (lsI r).isO = false := rfl
@[simp] theorem tpI_isO (r : List Int) : (tpI r).isO = false := rfl
@[simp] theorem lsI_fz (r : List Int) : (lsI r).fz = lsI r := by simp [lsI]
@[simp] theorem tpI_fz (r : List Int) : (tpI r).fz = tpI r := by simp [tpI]
@[simp] theorem fzs_lsI (a : Mat) : fzs (a.map lsI) = a.map lsI := by rw [fzs_eq, List.map_map]; exact List.map_congr_left fun x _ => lsI_fz x
@[simp] theorem fzs_tpI (a : Mat) : fzs (a.map tpI) = a.map tpI := by rw [fzs_eq, List.map_map]; exact List.map_congr_left fun x _ => tpI_fz x
def liP (k : List Int) : PyData := .list (k.map PyData.int)
theorem toPys_ints : ∀ k : List Int, toPys (k.map D.int) = some (k.map PyData.int)
  | [] => by simp [toPys]
  | b :: k => by
    rw [List.map_cons, toPys, toPys_ints k, toPy]
    rfl
theorem toPys_mat : ∀ a : Mat, toPys (a.map lsI) = some (a.map liP)
  | [] => by simp [toPys]
  | k :: a => by
    rw [List.map_cons, toPys, toPys_mat a, lsI, toPy, toPys_ints]
    rfl
theorem lay_ints : ∀ k : List Int, PyData.canLayAll0 (k.map PyData.int) = true ∧ PyData.depthAll (k.map PyData.int) = 0
  | [] => by simp [PyData.canLayAll0, PyData.depthAll]
  | b :: k => by
    have := lay_ints k
    simp [PyData.canLayAll0, PyData.depthAll, PyData.canLay0, PyData.depth, this.1, this.2]
theorem lay_mat : ∀ a : Mat, PyData.canLayAll0 (a.map liP) = true ∧ PyData.depthAll (a.map liP) ≤ 1
  | [] => by simp [PyData.canLayAll0, PyData.depthAll]
  | k :: a => by
    have h := lay_mat a
    have h2 := lay_ints k
    refine ⟨by simp [liP, PyData.canLayAll0, PyData.canLay0, h2.1, h.1], ?_⟩
    simp only [List.map_cons, PyData.depthAll, liP, PyData.depth, h2.2]
    have := h.2
    omega
theorem shaped_mat (a : Mat) : SeqAt.shaped (.list (a.map liP)) = true := by
  have h := lay_mat a
  show (PyData.canLay0 (.list (a.map liP)) && decide (PyData.depth (.list (a.map liP)) ≤ 64)) = true
  have h2 : PyData.depth (.list (a.map liP)) ≤ 64 := by
    simp only [PyData.depth]
    omega
  have h3 : PyData.canLay0 (.list (a.map liP)) = true := by simp only [PyData.canLay0]; exact h.1
  rw [h3, decide_eq_true h2]
  rfl
theorem eqv_ints : ∀ k l : List Int, PyData.eqvAll (k.map PyData.int) (l.map PyData.int) = decide (k = l)
  | [], [] => by simp [PyData.eqvAll]
  | [], _ :: _ => by simp [PyData.eqvAll]
  | _ :: _, [] => by simp [PyData.eqvAll]
  | a :: k, b :: l => by
    have := eqv_ints k l
    simp only [List.map_cons, PyData.eqvAll, this, PyData.eqv]
    by_cases q : a = b <;> simp [q]
theorem eqv_mat : ∀ a b : Mat, PyData.eqvAll (a.map liP) (b.map liP) = decide (a = b)
  | [], [] => by simp [PyData.eqvAll]
  | [], _ :: _ => by simp [PyData.eqvAll]
  | _ :: _, [] => by simp [PyData.eqvAll]
  | x :: a, y :: b => by
    have h1 := eqv_mat a b
    have h2 := eqv_ints x y
    simp only [List.map_cons, PyData.eqvAll, h1]
    rw [show PyData.eqv (liP x) (liP y) = decide (x = y) by simp only [liP, PyData.eqv]; exact h2]
    by_cases q : x = y <;> simp [q]
theorem eqA_mat (a b : Mat) : eqA (.lst (a.map lsI)) (.lst (b.map lsI)) = some (decide (a = b)) := by
  unfold eqA
  rw [show eqS (.lst (a.map lsI)) (.lst (b.map lsI)) = none from rfl]
  show eqDp _ _ = _
  unfold eqDp
  rw [toPy, toPy, toPys_mat, toPys_mat]
  dsimp only [Option.map_some]
  rw [shaped_mat, shaped_mat]
  simp only [Bool.and_self, if_true, PyData.eqv]
  rw [eqv_mat]
@[simp] theorem neA_mat (a b : Mat) : oNeA (.lst (a.map lsI)) (.lst (b.map lsI)) = some (.bl (!decide (a = b))) := by
  unfold oNeA
  rw [eqA_mat]
  rfl
theorem shaped_tup (k : List Int) : SeqAt.shaped (.tuple (k.map PyData.int)) = true := by
  have h := lay_ints k
  show (PyData.canLay0 (.tuple (k.map PyData.int)) && decide (PyData.depth (.tuple (k.map PyData.int)) ≤ 64)) = true
  have h2 : PyData.depth (.tuple (k.map PyData.int)) ≤ 64 := by
    simp only [PyData.depth]
    omega
  have h3 : PyData.canLay0 (.tuple (k.map PyData.int)) = true := by simp only [PyData.canLay0]; exact h.1
  rw [h3, decide_eq_true h2]
  rfl
theorem neA_tup (a b : List Int) : oNeA (.tup (a.map D.int)) (.tup (b.map D.int)) = some (.bl (!decide (a = b))) := by
  unfold oNeA eqA
  rw [show eqS (.tup (a.map D.int)) (.tup (b.map D.int)) = none from rfl]
  show (eqDp _ _).map _ = _
  unfold eqDp
  rw [toPy, toPy, toPys_ints, toPys_ints]
  dsimp only [Option.map_some]
  rw [shaped_tup, shaped_tup]
  simp only [Bool.and_self, if_true, PyData.eqv]
  rw [eqv_ints]
  rfl
theorem plns_ints (r : List Int) : plns (r.map D.int) = true := plns_all.mpr fun d hd => by
  obtain ⟨i, _, rfl⟩ := List.mem_map.mp hd
  rfl
theorem szs_ints : ∀ r : List Int, szs (r.map D.int) = r.length
  | [] => by simp
  | x :: r => by
    rw [List.map_cons, szs_cons, szs_ints r, D.sz, List.length_cons]
    omega
structure Mx (p s : Nat) (a : Mat) : Prop where
  len : a.length = p
  row : ∀ r ∈ a, r.length = s
  mks : ∀ r ∈ a, ∀ m ∈ r, 0 ≤ m ∧ m ≤ 2
theorem Mx.at {p s : Nat} {a : Mat} (h : Mx p s a) {i j : Nat} (hi : i < p) (hj : j < s) : ∃ r m, a[i]? = some r ∧ r[j]? = some m ∧ 0 ≤ m ∧ m ≤ 2 := by
  have hi' : i < a.length := by rw [h.len]; exact hi
  have hr := List.getElem_mem hi'
  have hj' : j < a[i].length := by rw [h.row _ hr]; exact hj
  have hm := List.getElem_mem hj'
  exact ⟨a[i], a[i][j], List.getElem?_eq_getElem hi', List.getElem?_eq_getElem hj', h.mks _ hr _ hm⟩

theorem plns_tpI (a : Mat) : plns (a.map tpI) = true := plns_all.mpr fun d hd => by
  obtain ⟨r, _, rfl⟩ := List.mem_map.mp hd
  simp [tpI, D.pln, plns_ints]
theorem szs_tpI {n : Nat} : ∀ {a : Mat}, (∀ r ∈ a, r.length = n) → szs (a.map tpI) = a.length * (1 + n)
  | [], _ => by simp
  | r :: a, h => by
    rw [List.map_cons, szs_cons, szs_tpI fun x hx => h x (by simp [hx]), tpI, D.sz, szs_ints, h r (by simp), List.length_cons, Nat.succ_mul]
    omega

/-! ## shapes and bitmaps -/
theorem btw_ok (v a b : Int) : m_is_between [.int v, .int a, .int b] = .ok (.bl (decide (a ≤ v) && decide (v ≤ b))) [] := by
  by_cases h1 : a ≤ v
  · simp [m_is_between, g_is_between, h1]
  · simp [m_is_between, g_is_between, h1]
theorem ext_ok {v m : Int} (h : 1 ≤ v ∧ v ≤ m) : m_check_extent [.int v, .int m] = .ok .non [] := by
  simp [m_check_extent, g_check_extent, btw_ok, h.1, h.2]
def shN : List Str := ["pages", "slots", "chunk", "columns"]
def shV (p s c k : Int) : List D := [.int p, .int s, .int c, .int k]
def shD (p s c k : Int) : D := .ins 0 ["pages", "slots", "chunk", "columns"] [.int p, .int s, .int c, .int k]
theorem shape_ok {p s c k : Int} (hp : 1 ≤ p ∧ p ≤ 16) (hs : 1 ≤ s ∧ s ≤ 8) (hc : 1 ≤ c ∧ c ≤ 16) (hk : 1 ≤ k ∧ k ≤ 3) :
    m_Shape_init [.oin 0 [] [], .int p, .int s, .int c, .int k] = .ok .non [.oin 0 ["pages", "slots", "chunk", "columns"] [.int p, .int s, .int c, .int k]] := by
  have e1 := ext_ok hp
  have e2 := ext_ok hs
  have e3 := ext_ok hc
  have e4 := ext_ok hk
  simp [m_Shape_init, g_Shape_init, e1, e2, e3, e4]
@[simp] theorem shD_isO (p s c k : Int) : (shD p s c k).isO = false := rfl
@[simp] theorem shD_fz (p s c k : Int) : (shD p s c k).fz = shD p s c k := by simp [shD]
@[simp] theorem shD_pages (p s c k : Int) : fldD 0 "pages" (shD p s c k) = some (.int p) := by simp [shD]
@[simp] theorem shD_slots (p s c k : Int) : fldD 0 "slots" (shD p s c k) = some (.int s) := by simp [shD]
@[simp] theorem shD_chunk (p s c k : Int) : fldD 0 "chunk" (shD p s c k) = some (.int c) := by simp [shD]
@[simp] theorem shD_columns (p s c k : Int) : fldD 0 "columns" (shD p s c k) = some (.int k) := by simp [shD]
def qI (x : Bool × List Int) : D := if x.1 = true then tpI x.2 else lsI x.2
@[simp] theorem qI_isO (x : Bool × List Int) : (qI x).isO = false := by unfold qI; split <;> rfl
@[simp] theorem qI_fz (x : Bool × List Int) : (qI x).fz = qI x := by unfold qI; split <;> simp
@[simp] theorem fzs_qI (a : List (Bool × List Int)) : fzs (a.map qI) = a.map qI := by rw [fzs_eq, List.map_map]; exact List.map_congr_left fun x _ => qI_fz x
theorem tup_lc {e0 e1 e2 : Option D} (a : List (Bool × List Int)) (hl : a.length ≤ 1000) :
    lcGo (lcStep (kName 3) (mP true) (mCb oTuple (mCons (mVar 3) mNil)) [3]) [3] (a.map qI) [] [e0, e1, e2, none] = some ((a.map (·.2)).map tpI, [e0, e1, e2, none]) := by
  have lc := lc_fmap (step := lcStep (kName 3) (mP true) (mCb oTuple (mCons (mVar 3) mNil)) [3]) (vs := [3]) (ρ := [e0, e1, e2, none]) qI (fun x => some (tpI x.2)) (xs := a) (acc := []) (fun x _ => by
    obtain ⟨b, r⟩ := x
    refine ⟨[e0, e1, e2, some (qI (b, r))], ?_, by simp⟩
    cases b <;> simp [lcStep, qI, tpI, lsI]) (by simp; omega)
  rw [fm_map, List.nil_append] at lc
  rw [lc, List.map_map]
  rfl
/-! ## the law's sizes and marks -/
theorem sizes_turn {st : Strm'} (so : st.Ok) {e1 e2 e5 : Option D} {xs : List D} (hx : xs.length ≤ 100) {M : Int} (hM : 1 ≤ M ∧ M ≤ 1000) :
    ∃ (st' : Strm') (v : Int) (f5 : Option D), st'.Ok ∧ 1 ≤ v ∧ v ≤ M ∧ g_sizes_1 [some (stD st), e1, e2, some (.ols xs), some (.int M), e5] = .nx [some (stD st'), e1, e2, some (.ols (xs ++ [.int v])), some (.int M), f5] := by
  have d6 := draw_ok so (m := 6) (by decide) (by decide)
  have o6 := drawS_ok so 6
  generalize drawV st 6 = v at *
  generalize drawS st 6 = s1 at *
  have dM := draw_ok o6 (m := M) (by omega) (by omega)
  have oM := drawS_ok o6 M
  have b1 := drawV_nn s1 (m := M) (by omega)
  have b2 := drawV_lt s1 (m := M) (by omega)
  generalize drawV s1 M = u at *
  generalize drawS s1 M = s2 at *
  have hx2 : xs.length ≤ 100000 := by omega
  by_cases q4 : v = 4
  · exact ⟨s1, M, some (.int v), o6, hM.1, Int.le_refl _, by simp [-draw_ok, g_sizes_1, d6, q4, hx2]⟩
  · by_cases q5 : v = 5
    · exact ⟨s1, 1, some (.int v), o6, Int.le_refl _, hM.1, by simp [-draw_ok, g_sizes_1, d6, q5, hx2]⟩
    · exact ⟨s2, 1 + u, some (.int v), oM, by omega, by omega, by simp [-draw_ok, g_sizes_1, d6, q4, q5, dM, hx2]⟩
theorem sizes_ok {st : Strm'} (so : st.Ok) {P S : Int} (hP : 1 ≤ P ∧ P ≤ 1000) (hS : 1 ≤ S ∧ S ≤ 1000) :
    ∃ (st' : Strm') (p s c k : Int), st'.Ok ∧ (1 ≤ p ∧ p ≤ P) ∧ (1 ≤ s ∧ s ≤ S) ∧ (1 ≤ c ∧ c ≤ 16) ∧ (1 ≤ k ∧ k ≤ 3) ∧ m_sizes [stD st, .int P, .int S] = .ok (.lst [.int p, .int s, .int c, .int k]) [stD st'] := by
  obtain ⟨s1, p, f1, o1, a1, b1, t1⟩ := sizes_turn so (e1 := some (.int P)) (e2 := some (.int S)) (e5 := none) (xs := []) (by simp) hP
  obtain ⟨s2, s, f2, o2, a2, b2, t2⟩ := sizes_turn o1 (e1 := some (.int P)) (e2 := some (.int S)) (e5 := f1) (xs := [.int p]) (by simp) hS
  obtain ⟨s3, c, f3, o3, a3, b3, t3⟩ := sizes_turn o2 (e1 := some (.int P)) (e2 := some (.int S)) (e5 := f2) (xs := [.int p, .int s]) (by simp) (M := 16) (by decide)
  obtain ⟨s4, k, f4, o4, a4, b4, t4⟩ := sizes_turn o3 (e1 := some (.int P)) (e2 := some (.int S)) (e5 := f3) (xs := [.int p, .int s, .int c]) (by simp) (M := 3) (by decide)
  refine ⟨s4, p, s, c, k, o4, ⟨a1, b1⟩, ⟨a2, b2⟩, ⟨a3, b3⟩, ⟨a4, b4⟩, ?_⟩
  simp only [List.nil_append, List.cons_append] at t1 t2 t3 t4
  simp [m_sizes, g_sizes, mLoop, t1, t2, t3, t4]
/-! ## comprehensions over rows of integers, at any slots -/
theorem wipe1 {ρ : Env} {v : Nat} (h : ρ[v]? = some none) : wipeE ρ [v] = ρ := by
  rw [wipeE_cons, wipeE_nil]
  refine List.ext_getElem? fun i => ?_
  by_cases e : v = i
  · subst e
    rw [List.getElem?_set_self (List.getElem?_eq_some_iff.mp h).1, h]
  · rw [List.getElem?_set_ne e]
theorem set_wipe {ρ : Env} {v : Nat} (h : ρ[v]? = some none) (d : D) : wipeE (ρ.set v (some d)) [v] = ρ := by
  rw [wipeE_cons, wipeE_nil, List.set_set]
  have := wipe1 h
  rw [wipeE_cons, wipeE_nil] at this
  exact this
theorem lc_one {α : Type} {ρ : Env} {v : Nat} {el : M D} (h : ρ[v]? = some none) (g f : α → D) {xs : List α} (hs : ∀ x ∈ xs, el (ρ.set v (some (g x))) = .ok (f x) (ρ.set v (some (g x)))) (hl : xs.length ≤ 100000) :
    lcGo (lcStep (kName v) (mP true) el [v]) [v] (xs.map g) [] ρ = some (xs.map f, ρ) := by
  have lc := lc_fmap (step := lcStep (kName v) (mP true) el [v]) (vs := [v]) (ρ := ρ) g (fun x => some (f x)) (xs := xs) (acc := []) (fun x hx => by
    refine ⟨ρ.set v (some (g x)), ?_, set_wipe h _⟩
    exact lcStep_yes (ρ1 := ρ.set v (some (g x))) (by rw [wipe1 h]; rfl) rfl (hs x hx)) (by simpa using hl)
  rw [fm_map, List.nil_append] at lc
  exact lc
theorem get_set {ρ : Env} {v : Nat} (h : ρ[v]? = some none) (d : D) : (ρ.set v (some d))[v]? = some (some d) := List.getElem?_set_self (List.getElem?_eq_some_iff.mp h).1

/-! ## a bitmap, looked at by address, page, iteration and in -/
theorem inSh_ok {p s : Nat} {c k : Int} {i j : Nat} (hi : i < p) (hj : j < s) : m_Shape_contains [shD p s c k, .tup [.int (i : Nat), .int (j : Nat)]] = .ok (.bl true) [] := by
  have h1 : (i : Int) ≤ p - 1 := by omega
  have h2 : (j : Int) ≤ s - 1 := by omega
  have o := shD_isO p s c k
  have sp := shD_pages p s c k
  have ss := shD_slots p s c k
  generalize shD p s c k = sh at *
  simp [m_Shape_contains, g_Shape_contains, btw_ok, h1, h2, o, sp, ss]
theorem addr_ok {p s : Nat} {c k : Int} {i j : Nat} (hi : i < p) (hj : j < s) : m_check_address [.tup [.int (i : Nat), .int (j : Nat)], shD p s c k] = .ok .non [] := by
  have e := inSh_ok (c := c) (k := k) hi hj
  have o := shD_isO p s c k
  have i1 : isIns 0 (shD p s c k) = some () := by simp [shD]
  generalize shD p s c k = sh at *
  simp [m_check_address, g_check_address, e, o, i1]
/-! ## the addresses of a shape, in order -/
def adD (p s : Nat) : D := .tup [.int (p : Nat), .int (s : Nat)]
def adL (P S : Nat) : List D := (List.range P).flatMap fun p => (List.range S).map fun s => adD p s
theorem adr_in {e0 : Option D} {p S : Nat} {acc : List D} (hl : acc.length + S ≤ 100000) :
    lcGo (lcStep (kName 2) (mP true) (mTup (mCons (mVar 1) (mCons (mVar 2) mNil))) [2]) [2] (upto S) acc [e0, some (.int (p : Nat)), none] = some (acc ++ (List.range S).map (fun s => adD p s), [e0, some (.int (p : Nat)), none]) := by
  have lc := lc_fmap (step := lcStep (kName 2) (mP true) (mTup (mCons (mVar 1) (mCons (mVar 2) mNil))) [2]) (vs := [2]) (ρ := [e0, some (.int (p : Nat)), none]) (fun s : Nat => D.int (s : Nat)) (fun s => some (adD p s)) (xs := List.range S) (acc := acc) (fun s _ => by
    refine ⟨[e0, some (.int (p : Nat)), some (.int (s : Nat))], ?_, by simp⟩
    refine lcStep_yes (ρ1 := [e0, some (.int (p : Nat)), some (.int (s : Nat))]) rfl rfl ?_
    simp [adD]) (by simpa using hl)
  rw [fm_map] at lc
  exact lc
theorem adr_out {e0 : Option D} {S : Nat} (hS : S ≤ 100) (ss : fldD 0 "slots" (e0.getD .non) = some (.int (S : Nat))) (h0 : ∃ d, e0 = some d ∧ d.isO = false) : ∀ {xs : List Nat} {acc : List D}, acc.length + xs.length * 100 ≤ 100000 →
    lc2Go (lc2Step (kName 1) (mP true) (mRg1 (mCons (mFld 0 "slots" (mVar 0)) mNil)) (lcStep (kName 2) (mP true) (mTup (mCons (mVar 1) (mCons (mVar 2) mNil))) [2]) [1, 2] [2]) [1, 2] (xs.map fun p : Nat => D.int (p : Nat)) acc [e0, none, none] =
      some (acc ++ xs.flatMap (fun p => (List.range S).map fun s => adD p s), [e0, none, none])
  | [], acc, _ => by simp [lc2Go]
  | p :: xs, acc, hl => by
    have hl2 : acc.length + (xs.length + 1) * 100 ≤ 100000 := hl
    have i := adr_in (e0 := e0) (p := p) (S := S) (acc := acc) (by omega)
    have ih := adr_out hS ss h0 (xs := xs) (acc := acc ++ (List.range S).map fun s => adD p s) (by simp only [List.length_append, List.length_map, List.length_range]; omega)
    have rg : rg1 [.int (S : Nat)] = some (upto S) := rg1_n (by omega)
    rw [List.map_cons, lc2Go]
    have st : lc2Step (kName 1) (mP true) (mRg1 (mCons (mFld 0 "slots" (mVar 0)) mNil)) (lcStep (kName 2) (mP true) (mTup (mCons (mVar 1) (mCons (mVar 2) mNil))) [2]) [1, 2] [2] (.int (p : Nat)) acc [e0, none, none] = some (acc ++ (List.range S).map (fun s => adD p s), [e0, some (.int (p : Nat)), none]) := by
      obtain ⟨d, rfl, o⟩ := h0
      have ss' : fldD 0 "slots" d = some (.int (S : Nat)) := ss
      simp [-rg1_int, lc2Step, o, ss', rg, i]
    rw [st]
    dsimp only
    rw [show wipeE [e0, some (.int (p : Nat)), none] [1, 2] = [e0, none, none] by simp, ih]
    simp
theorem adr_ok {P S : Nat} {c k : Int} (hP : P ≤ 100) (hS : S ≤ 100) : m_Shape_addresses [shD P S c k] = .ok (.ols (adL P S)) [] := by
  have o := shD_isO P S c k
  have sp := shD_pages P S c k
  have ss := shD_slots P S c k
  have lc := adr_out (e0 := some (shD P S c k)) hS ss ⟨_, rfl, o⟩ (xs := List.range P) (acc := []) (by simp; omega)
  have up : (List.range P).map (fun p : Nat => D.int (p : Nat)) = upto P := rfl
  rw [up, List.nil_append] at lc
  have rg : rg1 [.int (P : Nat)] = some (upto P) := rg1_n (by omega)
  unfold adL
  generalize shD P S c k = sh at *
  generalize ((List.range P).flatMap fun p => (List.range S).map fun s => adD p s) = L at *
  simp [-rg1_int, m_Shape_addresses, g_Shape_addresses, o, sp, rg, lc]
theorem adL_at {P S n : Nat} (hS : 0 < S) (hn : n < P * S) : (adL P S)[n]? = some (adD (n / S) (n % S)) := by
  have key : ∀ P : Nat, (adL P S).length = P * S ∧ ∀ n, n < P * S → (adL P S)[n]? = some (adD (n / S) (n % S)) := by
    intro P
    induction P with
    | zero => exact ⟨by simp [adL], fun n h => by omega⟩
    | succ P ih =>
      obtain ⟨i1, i2⟩ := ih
      have e : adL (P + 1) S = adL P S ++ (List.range S).map fun s => adD P s := by simp [adL, List.range_succ]
      refine ⟨by rw [e, List.length_append, i1]; simp [Nat.succ_mul], fun n h => ?_⟩
      rw [Nat.succ_mul] at h
      rw [e]
      by_cases q : n < P * S
      · rw [List.getElem?_append_left (by rw [i1]; exact q)]
        exact i2 n q
      · rw [List.getElem?_append_right (by rw [i1]; omega), i1, List.getElem?_map, List.getElem?_range (by omega)]
        have d1 : n / S = P := by
          rw [Nat.div_eq_iff hS]
          omega
        have d2 : n % S = n - P * S := by
          have := Nat.div_add_mod n S
          rw [d1, Nat.mul_comm] at this
          omega
        rw [d1, d2]
        rfl
  exact (key P).2 n hn

def cellD : Option Int → D
  | none => .non
  | some n => .int n
def rowD (r : List (Option Int)) : D := .tup (r.map cellD)
@[simp] theorem cellD_isO {c : Option Int} : (cellD c).isO = false := by cases c <;> rfl

/-! ## a table's dict, by numbers of addresses -/
def kyN (S n : Nat) : List Int := [((n / S : Nat) : Int), ((n % S : Nat) : Int)]
theorem kyN_d (S n : Nat) : adD (n / S) (n % S) = .tup ((kyN S n).map D.int) := rfl
theorem kyN_inj {S n m : Nat} (h : kyN S n = kyN S m) : n = m := by
  unfold kyN at h
  injection h with h1 h2
  injection h2 with h2 _
  have a := Nat.div_add_mod n S
  have b := Nat.div_add_mod m S
  have h1' : n / S = m / S := by omega
  have h2' : n % S = m % S := by omega
  rw [h1', h2'] at a
  omega
def ksN (S : Nat) (es : List (Nat × D)) : List D := es.map fun e => adD (e.1 / S) (e.1 % S)
def xsN (es : List (Nat × D)) : List D := es.map (·.2)
def atN (es : List (Nat × D)) (n : Nat) : Option D := (es.find? fun e => decide (e.1 = n)).map (·.2)
theorem key_eq (S n m : Nat) : (keyI (adD (m / S) (m % S)) == some (kyN S n)) = decide (m = n) := by
  rw [kyN_d, keyI_tup]
  by_cases q : m = n
  · subst q; simp
  · rw [decide_eq_false q]
    exact beq_eq_false_iff_ne.mpr fun z => q (kyN_inj (Option.some.inj z))
theorem has_N (S n : Nat) (es : List (Nat × D)) : hasKI (kyN S n) (ksN S es) = (atN es n).isSome := by
  unfold hasKI ksN atN
  rw [List.any_map, Option.isSome_map]
  induction es with
  | nil => rfl
  | cons e es ih =>
    rw [List.any_cons, ih]
    simp only [Function.comp_apply, key_eq]
    by_cases q : e.1 = n
    · rw [List.find?_cons_of_pos (by simpa using q)]
      simp [q]
    · rw [List.find?_cons_of_neg (by simpa using q)]
      simp [q]
theorem look_N (S n : Nat) : ∀ es : List (Nat × D), lookD (kyN S n) (ksN S es, xsN es) = atN es n
  | [] => rfl
  | e :: es => by
    have ih := look_N S n es
    unfold lookD ksN xsN atN at ih ⊢
    simp only [List.map_cons, List.zip_cons_cons]
    by_cases q : e.1 = n
    · rw [List.find?_cons_of_pos (by rw [key_eq]; simpa using q), List.find?_cons_of_pos (by simpa using q)]
      rfl
    · rw [List.find?_cons_of_neg (by rw [key_eq]; simpa using q), List.find?_cons_of_neg (by simpa using q)]
      exact ih
theorem sto_N {S n : Nat} {es : List (Nat × D)} (h : atN es n = none) (x : D) : stoD (kyN S n) x (ksN S es, xsN es) = (ksN S (es ++ [(n, x)]), xsN (es ++ [(n, x)])) := by
  unfold stoD
  rw [if_neg (by rw [has_N, h]; simp)]
  simp [ksN, xsN, kyN_d]
def delN (es : List (Nat × D)) (n : Nat) : List (Nat × D) := es.filter fun e => !decide (e.1 = n)
theorem del_N (S n : Nat) : ∀ es : List (Nat × D), delD (kyN S n) (ksN S es, xsN es) = (ksN S (delN es n), xsN (delN es n))
  | [] => rfl
  | e :: es => by
    have ih := del_N S n es
    unfold delD ksN xsN delN at ih ⊢
    simp only [List.map_cons, List.zip_cons_cons]
    by_cases q : e.1 = n
    · rw [List.filter_cons_of_neg (by rw [key_eq]; simp [q]), List.filter_cons_of_neg (by simp [q])]
      exact ih
    · rw [List.filter_cons_of_pos (by rw [key_eq]; simp [q]), List.filter_cons_of_pos (by simp [q])]
      simp only [List.map_cons]
      have i1 := congrArg Prod.fst ih
      have i2 := congrArg Prod.snd ih
      dsimp only at i1 i2
      rw [i1, i2]
def tbD (sh : D) (S : Nat) (es : List (Nat × D)) : D := .oin 1 ["shape", "_rows"] [sh, .odc 1 (ksN S es) (xsN es)]
@[simp] theorem tbD_isO (sh : D) (S : Nat) (es : List (Nat × D)) : (tbD sh S es).isO = true := rfl
structure Tbl (m : Nat) (es : List (Nat × D)) (rows : List D) : Prop where
  len : rows.length = m
  nd : (es.map (·.1)).Nodup
  at_ : ∀ n, n < m → rows[n]? = some ((atN es n).getD .non)
  io : ∀ e ∈ es, ∃ r : List (Option Int), r.length ≤ 3 ∧ e.2 = rowD r
  cnt : rows.countP (fun d => !isN d) = es.length

/-! ## put, row_at, take, used -/
theorem adL_nums {P S : Nat} (hS : 0 < S) : adL P S = (List.range (P * S)).map fun n => adD (n / S) (n % S) := by
  have len : ∀ P : Nat, (adL P S).length = P * S := fun P => by
    induction P with
    | zero => simp [adL]
    | succ P ih =>
      have e : adL (P + 1) S = adL P S ++ (List.range S).map fun s => adD P s := by simp [adL, List.range_succ]
      rw [e, List.length_append, ih]
      simp [Nat.succ_mul]
  refine List.ext_getElem? fun n => ?_
  by_cases h : n < P * S
  · rw [adL_at hS h, List.getElem?_map, List.getElem?_range h]
    rfl
  · rw [List.getElem?_eq_none (by rw [len]; omega), List.getElem?_eq_none (by simp; omega)]
theorem adD_isO (p s : Nat) : (adD p s).isO = false := rfl
theorem adD_fz (p s : Nat) : (adD p s).fz = adD p s := by simp [adD]
section
variable {sh : D} {S : Nat} {es : List (Nat × D)}
theorem dicF_tb : dicF "_rows" ((["shape", "_rows"] : List Str), [sh, .odc 1 (ksN S es) (xsN es)]) = some (ksN S es, xsN es) := by
  have ne : (("_rows" : Str) == "shape") = false := by decide
  have lk : (((["shape", "_rows"] : List Str).zip [sh, D.odc 1 (ksN S es) (xsN es)]).lookup ("_rows" : Str)) = some (D.odc 1 (ksN S es) (xsN es)) := by
    rw [List.zip_cons_cons, List.lookup_cons, ne]
    rw [List.zip_cons_cons, List.lookup_cons, beq_self_eq_true]
  unfold dicF
  rw [lk]
  rfl
theorem put2_turn {e1 : Option D} {kept : D} (ko : kept.isO = false) (hl : es.length ≤ 1000) (n : Nat) : g_Table_put_2 [some (tbD sh S es), e1, some kept, some (adD (n / S) (n % S))] =
    if atN es n = none then .rt (adD (n / S) (n % S)) [some (tbD sh S (es ++ [(n, kept)])), e1, some kept, some (adD (n / S) (n % S))] else .nx [some (tbD sh S es), e1, some kept, some (adD (n / S) (n % S))] := by
  have kI : keyI (adD (n / S) (n % S)) = some (kyN S n) := by rw [kyN_d, keyI_tup]
  have kO : keyO (some (some (adD (n / S) (n % S)))) = some (kyN S n) := kI
  have ao := adD_isO (n / S) (n % S)
  have af := adD_fz (n / S) (n % S)
  have hN := has_N S n es
  have dc := dicF_tb (sh := sh) (S := S) (es := es)
  have hz : szok (ksN S es).length = some () := szok_of (by simp [ksN]; omega)
  have ix : (["shape", "_rows"] : List Str).idxOf ("_rows" : Str) = 1 := by decide
  by_cases q : atN es n = none
  · rw [if_pos q]
    rw [q] at hN
    have st := sto_N (S := S) q kept
    unfold tbD
    generalize adD (n / S) (n % S) = ad at *
    generalize hk : ksN S es = ks at *
    generalize hx : xsN es = xs at *
    simp [g_Table_put_2, g_Table_put_1, kI, kO, ao, af, hN, dc, hz, ix, st, ko]
    done
  · rw [if_neg q]
    have h2 : (atN es n).isSome = true := by
      cases e : atN es n with
      | none => exact absurd e q
      | some x => rfl
    rw [h2] at hN
    unfold tbD
    generalize adD (n / S) (n % S) = ad at *
    generalize hk : ksN S es = ks at *
    generalize hx : xsN es = xs at *
    simp [g_Table_put_2, kI, kO, ao, af, hN, dc]
    done
theorem put_loop {e1 : Option D} {kept : D} (ko : kept.isO = false) (hl : es.length ≤ 1000) : ∀ {xs : List Nat} {e3 : Option D}, ∃ f3,
    mLoop (kName 3) g_Table_put_2 (xs.map fun n => adD (n / S) (n % S)) [some (tbD sh S es), e1, some kept, e3] = (match xs.find? fun n => (atN es n).isNone with
      | none => .nx [some (tbD sh S es), e1, some kept, f3]
      | some n => .rt (adD (n / S) (n % S)) [some (tbD sh S (es ++ [(n, kept)])), e1, some kept, f3])
  | [], e3 => ⟨e3, rfl⟩
  | n :: xs, e3 => by
    have t := put2_turn (sh := sh) (S := S) (es := es) (e1 := e1) ko hl n
    by_cases q : atN es n = none
    · rw [if_pos q] at t
      refine ⟨some (adD (n / S) (n % S)), ?_⟩
      rw [List.map_cons, mLoop]
      simp only [kName_ap, List.set]
      rw [t, List.find?_cons_of_pos (by rw [q]; rfl)]
    · rw [if_neg q] at t
      obtain ⟨f3, ih⟩ := put_loop (e1 := e1) ko hl (xs := xs) (e3 := some (adD (n / S) (n % S)))
      refine ⟨f3, ?_⟩
      have h2 : (atN es n).isNone = false := by
        cases e : atN es n with
        | none => exact absurd e q
        | some x => rfl
      rw [List.map_cons, mLoop]
      simp only [kName_ap, List.set]
      rw [t, List.find?_cons_of_neg (by rw [h2]; exact Bool.false_ne_true)]
      exact ih
end

/-! ## the law's rows -/
def InLim (v : Option Int) : Prop := ∀ n, v = some n → -1000000000000000000 ≤ n ∧ n ≤ 1000000000000000000
def rD (r : List (Option Int)) : List D := r.map cellD
theorem rD_fz (r : List (Option Int)) : fzs (rD r) = rD r := by
  unfold rD
  rw [fzs_eq, List.map_map]
  refine List.map_congr_left fun x _ => ?_
  cases x <;> simp [cellD]

/-! ## a row -/
theorem row_turn {s : Strm'} (hs : s.Ok) {e1 e4 : Option D} {ns : List Int} (h1 : 1 ≤ ns.length) (h8 : ns.length ≤ 8) (hn : ∀ n ∈ ns, -1000000000000000000 < n ∧ n < 1000000000000000000) {r : List (Option Int)} (hr : r.length ≤ 1000) :
    ∃ v s' f4, s'.Ok ∧ InLim v ∧ g_row_1 [some (stD s), e1, some (.ols (rD r)), some (.lst (ns.map D.int)), e4] = .nx [some (stD s'), e1, some (.ols (rD (r ++ [v]))), some (.lst (ns.map D.int)), f4] := by
  have s10 : oPow (.int 10) (.int 18) = some (.int 1000000000000000000) := by simp [oPow]
  have hz : szok (rD r).length = some () := szok_of (by simp [rD]; omega)
  have dk := draw_ok hs (m := 8) (by decide) (by decide)
  have b1 := drawV_nn s (m := 8) (by decide)
  have b2 := drawV_lt s (m := 8) (by decide)
  have o1 := drawS_ok hs 8
  generalize drawV s 8 = k at dk b1 b2
  generalize drawS s 8 = s1 at dk o1
  have ap : ∀ v : Option Int, rD (r ++ [v]) = rD r ++ [cellD v] := fun v => by simp [rD]
  by_cases h6 : k = 6
  · subst h6
    refine ⟨none, s1, some (.int 6), o1, (fun n h => nomatch h), ?_⟩
    rw [ap]
    generalize rD r = xs at hz
    simp [-draw_ok, g_row_1, dk, hz, cellD]
  · by_cases h7 : k = 7
    · subst h7
      obtain ⟨v, s2, e, o2, c1, c2⟩ := number_ok o1 (m := 1000000000000000000) (by omega) (by omega)
      refine ⟨some v, s2, some (.int 7), o2, fun n h => by cases h; omega, ?_⟩
      rw [ap]
      generalize rD r = xs at hz
      simp [-draw_ok, g_row_1, dk, hz, s10, e, cellD]
    · have l0 : (0 : Int) < ns.length := by omega
      have dn := draw_ok o1 (m := ns.length) l0 (by omega)
      have c1 := drawV_nn s1 (m := ns.length) l0
      have c2 := drawV_lt s1 (m := ns.length) l0
      have o2 := drawS_ok o1 ns.length
      generalize drawS s1 ns.length = s2 at dn o2
      obtain ⟨j, hj⟩ : ∃ j : Nat, drawV s1 ns.length = (j : Int) := ⟨_, (Int.toNat_of_nonneg c1).symm⟩
      rw [hj] at dn c2
      have hjl : j < ns.length := by omega
      have hx : ns[j]? = some ns[j] := List.getElem?_eq_getElem hjl
      have hb := hn ns[j] (List.getElem_mem hjl)
      generalize ns[j] = x at hx hb
      have e0 : (ns.map D.int)[j]? = some (.int x) := by rw [List.getElem?_map, hx]; rfl
      have ln : (ns.map D.int).length = ns.length := List.length_map _
      have m1 := Int.emod_nonneg k (show (3 : Int) ≠ 0 by decide)
      have m2 := Int.emod_lt_of_pos k (show (0 : Int) < 3 by decide)
      refine ⟨some (x + k % 3 - 1), s2, some (.int k), o2, fun n h => by cases h; omega, ?_⟩
      rw [ap]
      generalize rD r = xs at hz
      rw [← ln] at dn
      generalize ns.map D.int = ys at e0 dn
      simp [-draw_ok, g_row_1, dk, h6, h7, hz, dn, e0, cellD]
theorem row_ok {s : Strm'} (hs : s.Ok) {p : List (List Int)} (hp : PoolOk p) (h3 : p.length ≤ 3) :
    ∃ r s', m_row [stD s, .lst (plD p)] = .ok (rowD r) [stD s'] ∧ s'.Ok ∧ r.length = p.length ∧ ∀ v ∈ r, InLim v := by
  have key := loop_nx (tg := kName 3) (body := g_row_1) (I := fun i ρ => ∃ s2 r f3 f4, ρ = [some (stD s2), some (.lst (plD p)), some (.ols (rD r)), f3, f4] ∧ s2.Ok ∧ r.length = i ∧ ∀ v ∈ r, InLim v)
    (ds := plD p) (ρ := [some (stD s), some (.lst (plD p)), some (.ols []), none, none]) (k := 0) ⟨s, [], none, none, rfl, hs, rfl, (fun v h => nomatch h)⟩ (fun i d ρ hi ⟨s2, r, f3, f4, hρ, o2, hlen, hr⟩ => by
      subst hρ
      have hi2 : (p.map fun ns => D.lst (ns.map D.int))[i]? = some d := hi
      rw [List.getElem?_map] at hi2
      obtain ⟨ns, q1, q2⟩ := Option.map_eq_some_iff.mp hi2
      subst q2
      have hil := (List.getElem?_eq_some_iff.mp q1).1
      obtain ⟨n1, n2, n3⟩ := hp ns (List.mem_of_getElem? q1)
      obtain ⟨v, s3, g4, o3, hv, e⟩ := row_turn o2 (e1 := some (.lst (plD p))) (e4 := f4) (ns := ns) n1 n2 n3 (r := r) (by omega)
      exact ⟨_, _, rfl, .inl e, s3, r ++ [v], _, _, rfl, o3, by simp [hlen], fun x hx => by
        rcases List.mem_append.mp hx with hx | hx
        · exact hr x hx
        · rw [List.mem_singleton] at hx
          subst hx
          exact hv⟩)
  obtain ⟨ρ', e1, s2, r, f3, f4, hρ, o2, hlen, hr⟩ := key
  subst hρ
  have lp : (plD p).length = p.length := by simp [plD]
  rw [lp] at hlen
  have f := rD_fz r
  have rd : rowD r = .tup (rD r) := rfl
  refine ⟨r, s2, ?_, o2, by omega, hr⟩
  rw [rd]
  generalize rD r = xs at e1 f
  generalize plD p = ys at e1
  simp [m_row, g_row, e1, f]

/-! ## rows that are rows -/
theorem cell_isO4 (v : Option Int) : (cellD v).isO = false := by cases v <;> rfl
theorem cell_fz4 (v : Option Int) : (cellD v).fz = cellD v := by cases v <;> simp [cellD]
theorem row_fzs4 (r : List (Option Int)) : fzs (r.map cellD) = r.map cellD := by rw [fzs_eq, List.map_map]; exact List.map_congr_left fun x _ => cell_fz4 x
theorem row_noO (r : List (Option Int)) : noO (r.map cellD) = some (r.map cellD) := by
  unfold noO
  rw [if_neg]
  intro h
  obtain ⟨d, h1, h2⟩ := List.any_eq_true.mp h
  obtain ⟨v, _, rfl⟩ := List.mem_map.mp h1
  rw [cell_isO4] at h2
  cases h2
theorem crow_turn {e0 e1 : Option D} {v : Option Int} (h : InLim v) : g_check_row_1 [e0, e1, some (cellD v)] = .nx [e0, e1, some (cellD v)] := by
  cases v with
  | none => simp [g_check_row_1, cellD]
  | some i =>
    obtain ⟨a, b⟩ := h i rfl
    have bt := btw_ok i (-1000000000000000000) 1000000000000000000
    rw [decide_eq_true a, decide_eq_true b] at bt
    simp [g_check_row_1, cellD, bt]
theorem crow_loop {e0 e1 : Option D} : ∀ {r : List (Option Int)} {e2 : Option D}, (∀ v ∈ r, InLim v) → ∃ f2, mLoop (kName 2) g_check_row_1 (r.map cellD) [e0, e1, e2] = .nx [e0, e1, f2]
  | [], e2, _ => ⟨e2, rfl⟩
  | v :: r, e2, h => by
    obtain ⟨f2, ih⟩ := crow_loop (e0 := e0) (e1 := e1) (r := r) (e2 := some (cellD v)) fun x hx => h x (by simp [hx])
    refine ⟨f2, ?_⟩
    rw [List.map_cons, mLoop]
    simp only [kName_ap, List.set]
    rw [crow_turn (h v (by simp))]
    exact ih
theorem crow_tup {r : List (Option Int)} {n : Int} (h : ∀ v ∈ r, InLim v) (hn : ((r.length : Nat) : Int) = n) : m_check_row [rowD r, .int n] = .ok (rowD r) [rowD r] := by
  obtain ⟨f2, lp⟩ := crow_loop (e0 := some (rowD r)) (e1 := some (.int n)) (e2 := none) h
  have ff := row_fzs4 r
  have nn := row_noO r
  have ln : (((r.map cellD).length : Nat) : Int) = n := by rw [List.length_map]; exact hn
  unfold rowD at *
  generalize r.map cellD = rd at *
  subst ln
  simp [m_check_row, g_check_row, lp, ff, nn]
theorem crow_own {r : List (Option Int)} {n : Int} (h : ∀ v ∈ r, InLim v) (hn : ((r.length : Nat) : Int) = n) : m_check_row [.ols (r.map cellD), .int n] = .ok (rowD r) [.ols (r.map cellD)] := by
  obtain ⟨ρ', lp, f2, hρ⟩ := forGoV_nx (i := 0) (tg := kName 2) (body := g_check_row_1) (ds := r.map cellD) (I := fun ρ => ∃ e2, ρ = [some (.ols (r.map cellD)), some (.int n), e2]) (fun ρ ⟨e2, e⟩ => by rw [e]; rfl)
    (fun d hd => by obtain ⟨v, _, rfl⟩ := List.mem_map.mp hd; exact cell_isO4 v) (fun ρ d ⟨e2, e⟩ hd => by
      obtain ⟨v, hv, rfl⟩ := List.mem_map.mp hd
      subst e
      exact ⟨_, _, rfl, .inl (crow_turn (h v hv)), some (cellD v), rfl⟩) ((r.map cellD).length + 1) 0 [some (.ols (r.map cellD)), some (.int n), none] ⟨none, rfl⟩ (by omega) (by omega)
  subst hρ
  have ff := row_fzs4 r
  have nn := row_noO r
  have ln : (((r.map cellD).length : Nat) : Int) = n := by rw [List.length_map]; exact hn
  unfold rowD at *
  generalize r.map cellD = rd at *
  subst ln
  simp [m_check_row, g_check_row, lp, ff, nn]

/-! ## put, row_at, take, used -/
def freeN (es : List (Nat × D)) (m : Nat) : Option Nat := (List.range m).find? fun n => (atN es n).isNone
theorem fzs_adL (P S : Nat) : fzs (adL P S) = adL P S := by
  unfold adL
  rw [fzs_eq, List.map_flatMap]
  refine congrArg (fun f => List.flatMap f (List.range P)) (funext fun p => ?_)
  rw [List.map_map]
  exact List.map_congr_left fun s _ => adD_fz p s
theorem put_ok {P S : Nat} {c : Int} {k : Int} {es : List (Nat × D)} {row : D} {r : List (Option Int)} (hP : P ≤ 100) (hS : 0 < S ∧ S ≤ 100) (hl : es.length ≤ 1000) (cr : m_check_row [row, .int k] = .ok (rowD r) [row]) :
    m_Table_put [tbD (shD P S c k) S es, row] = match freeN es (P * S) with
      | some n => .ok (adD (n / S) (n % S)) [tbD (shD P S c k) S (es ++ [(n, rowD r)]), row]
      | none => .ex 2 none [tbD (shD P S c k) S es, row] := by
  obtain ⟨f3, lp⟩ := put_loop (sh := shD P S c k) (S := S) (es := es) (e1 := some row) (kept := rowD r) rfl hl (xs := List.range (P * S)) (e3 := none)
  have ad := adr_ok (P := P) (S := S) (c := c) (k := k) hP hS.2
  have fa := fzs_adL P S
  rw [← adL_nums hS.1] at lp
  have sc := shD_columns P S c k
  have so := shD_isO P S c k
  have i1 : isIns 0 (shD P S c k) = some () := by simp [shD]
  have rO : (rowD r).isO = false := rfl
  unfold freeN
  have ao := fun n => adD_isO (n / S) (n % S)
  cases e : (List.range (P * S)).find? fun n => (atN es n).isNone with
  | none =>
    rw [e] at lp
    dsimp only at lp ⊢
    unfold tbD at *
    generalize D.odc 1 (ksN S es) (xsN es) = T0 at *
    generalize shD P S c k = sh at *
    generalize rowD r = rd at *
    generalize adL P S = al at *
    simp [m_Table_put, g_Table_put, cr, ad, fa, sc, so, i1, lp, rO, mRaise0]
  | some n =>
    rw [e] at lp
    dsimp only at lp ⊢
    have ao := ao n
    unfold tbD at *
    generalize D.odc 1 (ksN S es) (xsN es) = T0 at *
    generalize D.odc 1 (ksN S (es ++ [(n, rowD r)])) (xsN (es ++ [(n, rowD r)])) = T1 at *
    generalize shD P S c k = sh at *
    generalize rowD r = rd at *
    generalize adL P S = al at *
    generalize adD (n / S) (n % S) = A at *
    simp [m_Table_put, g_Table_put, cr, ad, fa, sc, so, i1, lp, rO, ao]
theorem addrN_ok {P S : Nat} {c k : Int} {n : Nat} (hS : 0 < S) (hn : n < P * S) : m_check_address [adD (n / S) (n % S), shD P S c k] = .ok .non [] :=
  addr_ok (Nat.div_lt_of_lt_mul (by rw [Nat.mul_comm]; exact hn)) (Nat.mod_lt _ hS)
theorem row_at_ok {P S : Nat} {c k : Int} {es : List (Nat × D)} {n : Nat} (hS : 0 < S) (hn : n < P * S) (hv : ((atN es n).getD .non).isO = false) :
    m_Table_row_at [tbD (shD P S c k) S es, adD (n / S) (n % S)] = .ok ((atN es n).getD .non) [tbD (shD P S c k) S es] := by
  have ca := addrN_ok (c := c) (k := k) hS hn
  have ao := adD_isO (n / S) (n % S)
  have af := adD_fz (n / S) (n % S)
  have so := shD_isO P S c k
  have kI : keyI (adD (n / S) (n % S)) = some (kyN S n) := by rw [kyN_d, keyI_tup]
  have kO : keyO (some (some (adD (n / S) (n % S)))) = some (kyN S n) := kI
  have lk := look_N S n es
  have dc := dicF_tb (sh := shD P S c k) (S := S) (es := es)
  unfold tbD
  generalize adD (n / S) (n % S) = ad at *
  generalize ksN S es = ks at *
  generalize xsN es = xs at *
  generalize shD P S c k = sh at *
  simp [m_Table_row_at, g_Table_row_at, ca, ao, so, kO, lk, dc]
theorem take_ok {P S : Nat} {c k : Int} {es : List (Nat × D)} {n : Nat} (hS : 0 < S) (hn : n < P * S) {x : D} (hx : atN es n = some x) :
    m_Table_take [tbD (shD P S c k) S es, adD (n / S) (n % S)] = .ok x [tbD (shD P S c k) S (delN es n)] := by
  have ca := addrN_ok (c := c) (k := k) hS hn
  have ao := adD_isO (n / S) (n % S)
  have af := adD_fz (n / S) (n % S)
  have so := shD_isO P S c k
  have kI : keyI (adD (n / S) (n % S)) = some (kyN S n) := by rw [kyN_d, keyI_tup]
  have kO : keyO (some (some (adD (n / S) (n % S)))) = some (kyN S n) := kI
  have lk := look_N S n es
  rw [hx] at lk
  have dl := del_N S n es
  have hN := has_N S n es
  rw [hx] at hN
  have dc := dicF_tb (sh := shD P S c k) (S := S) (es := es)
  have ix : (["shape", "_rows"] : List Str).idxOf ("_rows" : Str) = 1 := by decide
  unfold tbD
  generalize adD (n / S) (n % S) = ad at *
  generalize ksN S es = ks at *
  generalize xsN es = xs at *
  generalize shD P S c k = sh at *
  simp [m_Table_take, g_Table_take, ca, ao, so, kI, kO, lk, dc, hN, dl, ix]
theorem used_ok {sh : D} {S : Nat} {es : List (Nat × D)} : m_Table_used [tbD sh S es] = .ok (.int (es.length : Nat)) [tbD sh S es] := by
  have dc := dicF_tb (sh := sh) (S := S) (es := es)
  have ln : (ksN S es).length = es.length := by simp [ksN]
  unfold tbD
  generalize ksN S es = ks at *
  generalize xsN es = xs at *
  simp [m_Table_used, g_Table_used, dc, ln]

/-! ## the law's rows beside the table -/
def freeR (rows : List D) (m : Nat) : Option Nat := (List.range m).find? fun n => isN ((rows[n]?).getD .non)
def numD : Option Nat → D
  | some n => .int (n : Nat)
  | none => .non
theorem first_loop {rows : List D} (ho : ∀ d ∈ rows, d.isO = false) : ∀ {xs : List Nat} {e1 : Option D}, (∀ n ∈ xs, n < rows.length) → ∃ f1,
    mLoop (kName 1) g_first_free_1 (xs.map fun n : Nat => D.int (n : Nat)) [some (.lst rows), e1] = (match xs.find? fun n => isN ((rows[n]?).getD .non) with
      | none => .nx [some (.lst rows), f1]
      | some n => .rt (.int (n : Nat)) [some (.lst rows), f1])
  | [], e1, _ => ⟨e1, rfl⟩
  | n :: xs, e1, h => by
    obtain ⟨f1, ih⟩ := first_loop ho (xs := xs) (e1 := some (.int (n : Nat))) fun x hx => h x (by simp [hx])
    have hn := h n (by simp)
    have e2 : rows[n]? = some rows[n] := List.getElem?_eq_getElem hn
    have io := ho _ (List.getElem_mem hn)
    rw [List.map_cons, mLoop]
    simp only [kName_ap, List.set]
    have t : g_first_free_1 [some (.lst rows), some (.int (n : Nat))] = if isN rows[n] = true then .rt (.int (n : Nat)) [some (.lst rows), some (.int (n : Nat))] else .nx [some (.lst rows), some (.int (n : Nat))] := by
      generalize rows[n] = d at *
      cases q : isN d <;> simp [g_first_free_1, e2, io, q]
    rw [t]
    by_cases q : isN rows[n] = true
    · refine ⟨some (.int (n : Nat)), ?_⟩
      rw [if_pos q, List.find?_cons_of_pos (by rw [e2]; exact q)]
    · refine ⟨f1, ?_⟩
      rw [if_neg q, List.find?_cons_of_neg (by rw [e2]; exact q)]
      exact ih
theorem first_ok {rows : List D} (hl : rows.length ≤ 1000) (ho : ∀ d ∈ rows, d.isO = false) : m_first_free [.lst rows] = .ok (numD (freeR rows rows.length)) [] := by
  obtain ⟨f1, lp⟩ := first_loop ho (xs := List.range rows.length) (e1 := none) fun n h => List.mem_range.mp h
  have up : (List.range rows.length).map (fun n : Nat => D.int (n : Nat)) = upto rows.length := rfl
  rw [up] at lp
  have rg : rg1 [.int (rows.length : Nat)] = some (upto rows.length) := rg1_n (by omega)
  unfold freeR
  cases e : (List.range rows.length).find? fun n => isN ((rows[n]?).getD .non) with
  | none =>
    rw [e] at lp
    dsimp only at lp
    simp [-rg1_int, m_first_free, g_first_free, rg, lp, numD]
  | some n =>
    rw [e] at lp
    dsimp only at lp
    simp [-rg1_int, m_first_free, g_first_free, rg, lp, numD]
theorem rowD_isN (r : List (Option Int)) : isN (rowD r) = false := rfl
theorem rowD_isO6 (r : List (Option Int)) : (rowD r).isO = false := rfl
theorem rowD_fz6 (r : List (Option Int)) : (rowD r).fz = rowD r := by simp [rowD]
section
variable {m : Nat} {es : List (Nat × D)} {rows : List D}
theorem atN_mem {n : Nat} {x : D} (h : atN es n = some x) : (n, x) ∈ es := by
  unfold atN at h
  obtain ⟨e, h1, h2⟩ := Option.map_eq_some_iff.mp h
  have h3 := List.find?_some h1
  have h4 := List.mem_of_find?_eq_some h1
  have : e.1 = n := by simpa using h3
  rw [← this, ← h2]
  exact h4
theorem Tbl.val (h : Tbl m es rows) {n : Nat} {x : D} (e : atN es n = some x) : ∃ r : List (Option Int), r.length ≤ 3 ∧ x = rowD r := h.io _ (atN_mem e)
theorem Tbl.isN (h : Tbl m es rows) {n : Nat} (hn : n < m) : isN ((rows[n]?).getD .non) = (atN es n).isNone := by
  rw [h.at_ n hn]
  cases e : atN es n with
  | none => rfl
  | some x =>
    obtain ⟨r, _, rfl⟩ := h.val e
    rfl
theorem Tbl.flat (h : Tbl m es rows) : ∀ d ∈ rows, d = .non ∨ ∃ r : List (Option Int), r.length ≤ 3 ∧ d = rowD r := fun d hd => by
  obtain ⟨n, hn, e⟩ := List.getElem_of_mem hd
  have e1 := h.at_ n (by rw [← h.len]; exact hn)
  rw [List.getElem?_eq_getElem hn, e] at e1
  injection e1 with e1
  cases q : atN es n with
  | none => rw [q] at e1; exact .inl e1
  | some x =>
    rw [q] at e1
    obtain ⟨r, h1, rfl⟩ := h.val q
    exact .inr ⟨r, h1, e1⟩
theorem Tbl.rO (h : Tbl m es rows) : ∀ d ∈ rows, d.isO = false := fun d hd => by
  rcases h.flat d hd with rfl | ⟨r, _, rfl⟩ <;> rfl
theorem Tbl.rfz (h : Tbl m es rows) : fzs rows = rows := by
  rw [fzs_eq]
  refine (List.map_congr_left fun d hd => ?_).trans (List.map_id _)
  rcases h.flat d hd with rfl | ⟨r, _, rfl⟩
  · simp
  · rw [rowD_fz6]; rfl
theorem find_congr {α : Type} {p q : α → Bool} : ∀ {xs : List α}, (∀ x ∈ xs, p x = q x) → xs.find? p = xs.find? q
  | [], _ => rfl
  | x :: xs, h => by
    rw [List.find?_cons, List.find?_cons, h x (by simp), find_congr fun y hy => h y (by simp [hy])]
theorem Tbl.free (h : Tbl m es rows) : freeR rows m = freeN es m := find_congr fun n hn => h.isN (List.mem_range.mp hn)
theorem atN_app {n j : Nat} {x : D} (h : atN es n = none) : atN (es ++ [(n, x)]) j = if n = j then some x else atN es j := by
  unfold atN at *
  rw [List.find?_append]
  by_cases q : n = j
  · subst q
    rw [if_pos rfl]
    rw [Option.map_eq_none_iff] at h
    rw [h]
    simp
  · rw [if_neg q]
    cases e : es.find? fun e => decide (e.1 = j) with
    | none => simp [q]
    | some y => rfl
theorem key_mem {n : Nat} : n ∈ es.map (·.1) ↔ (atN es n).isSome = true := by
  unfold atN
  rw [Option.isSome_map, List.find?_isSome, List.mem_map]
  constructor
  · rintro ⟨e, h1, h2⟩; exact ⟨e, h1, by simpa using h2⟩
  · rintro ⟨e, h1, h2⟩; exact ⟨e, h1, by simpa using h2⟩
theorem Tbl.put (h : Tbl m es rows) {n : Nat} (hn : n < m) (e : atN es n = none) {r : List (Option Int)} (hr : r.length ≤ 3) : Tbl m (es ++ [(n, rowD r)]) (rows.set n (rowD r)) := by
  refine ⟨by rw [List.length_set]; exact h.len, ?_, fun j hj => ?_, fun x hx => ?_, ?_⟩
  · rw [List.map_append, List.nodup_append]
    refine ⟨h.nd, by simp, fun a ha b hb => ?_⟩
    have hb : b = n := by simpa using hb
    subst hb
    intro q
    subst q
    have := key_mem.mp ha
    rw [e] at this
    cases this
  · rw [atN_app e]
    by_cases q : n = j
    · subst q
      rw [List.getElem?_set_self (by rw [h.len]; exact hn), if_pos rfl]
      rfl
    · rw [List.getElem?_set_ne q, if_neg q]
      exact h.at_ j hj
  · rcases List.mem_append.mp hx with hx | hx
    · exact h.io x hx
    · have : x = (n, rowD r) := by simpa using hx
      subst this
      exact ⟨r, hr, rfl⟩
  · have hl : n < rows.length := by rw [h.len]; exact hn
    have e2 := h.at_ n hn
    rw [e, List.getElem?_eq_getElem hl] at e2
    injection e2 with e2
    rw [List.countP_set hl, h.cnt, e2]
    simp [rowD_isN]
theorem del_at {n j : Nat} : atN (delN es n) j = if n = j then none else atN es j := by
  unfold atN delN
  rw [List.find?_filter]
  by_cases q : n = j
  · subst q
    rw [if_pos rfl, Option.map_eq_none_iff, List.find?_eq_none]
    intro x _
    simp
  · rw [if_neg q]
    refine congrArg _ (find_congr fun x _ => ?_)
    by_cases z : x.1 = j
    · have : ¬ x.1 = n := fun y => q (y.symm.trans z)
      simp [z, Ne.symm q]
    · simp [z]
theorem del_len : ∀ {es : List (Nat × D)}, (es.map (·.1)).Nodup → ∀ {n : Nat} {x : D}, atN es n = some x → (delN es n).length + 1 = es.length
  | [], _, n, x, h => by cases h
  | e :: es, hd, n, x, h => by
    rw [List.map_cons, List.nodup_cons] at hd
    unfold delN
    by_cases q : e.1 = n
    · rw [List.filter_cons_of_neg (by simp [q])]
      have : es.filter (fun e => !decide (e.1 = n)) = es := List.filter_eq_self.mpr fun y hy => by
        have : y.1 ≠ n := fun z => hd.1 (by rw [q, ← z]; exact List.mem_map_of_mem hy)
        simp [this]
      rw [this]
      rfl
    · rw [List.filter_cons_of_pos (by simp [q]), List.length_cons, List.length_cons]
      have h2 : atN es n = some x := by
        unfold atN at *
        rw [List.find?_cons_of_neg (by simpa using q)] at h
        exact h
      have := del_len hd.2 h2
      unfold delN at this
      omega
theorem Tbl.take (h : Tbl m es rows) {n : Nat} (hn : n < m) {x : D} (e : atN es n = some x) : Tbl m (delN es n) (rows.set n .non) := by
  refine ⟨by rw [List.length_set]; exact h.len, ?_, fun j hj => ?_, fun x hx => ?_, ?_⟩
  · unfold delN
    exact h.nd.sublist (List.filter_sublist.map _)
  · rw [del_at]
    by_cases q : n = j
    · subst q
      rw [List.getElem?_set_self (by rw [h.len]; exact hn), if_pos rfl]
      rfl
    · rw [List.getElem?_set_ne q, if_neg q]
      exact h.at_ j hj
  · exact h.io x (List.mem_filter.mp hx).1
  · have hl : n < rows.length := by rw [h.len]; exact hn
    have e2 := h.at_ n hn
    obtain ⟨r, _, rfl⟩ := h.val e
    rw [e, List.getElem?_eq_getElem hl] at e2
    injection e2 with e2
    have dl := del_len h.nd e
    rw [List.countP_set hl, h.cnt, e2]
    simp [rowD_isN]
    omega
theorem Tbl.le (h : Tbl m es rows) : es.length ≤ m := by
  rw [← h.cnt, ← h.len]
  exact List.countP_le_length
theorem rowD_pln (r : List (Option Int)) : (rowD r).pln = true := by
  show plns _ = true
  refine plns_all.mpr fun d hd => ?_
  obtain ⟨v, _, rfl⟩ := List.mem_map.mp hd
  cases v <;> rfl
theorem cells_sz : ∀ r : List (Option Int), szs (r.map cellD) = r.length
  | [] => by simp
  | v :: r => by
    rw [List.map_cons, szs_cons, cells_sz r, List.length_cons]
    have : (cellD v).sz = 1 := by cases v <;> simp [cellD, D.sz]
    omega
theorem rowD_sz (r : List (Option Int)) : (rowD r).sz = 1 + r.length := by
  unfold rowD
  rw [D.sz, cells_sz]
theorem like_row {r : List (Option Int)} (h : r.length ≤ 3) : m_alike [rowD r, rowD r] = .ok (.bl true) [] := alike_self (rowD_pln r) (by rw [rowD_sz]; omega)
end

/-! ## the law's put -/
theorem freeN_some {es : List (Nat × D)} {m n : Nat} (h : freeN es m = some n) : n < m ∧ atN es n = none := by
  unfold freeN at h
  have h1 := List.find?_some h
  have h2 := List.mem_of_find?_eq_some h
  refine ⟨List.mem_range.mp h2, ?_⟩
  cases e : atN es n with
  | none => rfl
  | some x => rw [e] at h1; cases h1
theorem like_ad (a b : Nat) : m_alike [.lst [adD a b], .lst [adD a b]] = .ok (.bl true) [] := alike_self (by simp [adD, D.pln, plns]) (by simp [adD, D.sz])
theorem like_full : m_alike [.lst [.str "full", .bl true, .bl false], .lst [.str "full", .bl true, .bl false]] = .ok (.bl true) [] := alike_self (by simp [D.pln, plns]) (by simp [D.sz])
theorem right_ok {s : Strm'} (hs : s.Ok) {p : List (List Int)} (hp : PoolOk p) (h3 : 1 ≤ p.length ∧ p.length ≤ 3) {P S : Nat} (hP : P ≤ 100) (hS : 0 < S ∧ S ≤ 8) (hm : P * S ≤ 1000) {c : Int} {es : List (Nat × D)} {rows : List D} (T : Tbl (P * S) es rows) :
    ∃ s' es' rows', s'.Ok ∧ Tbl (P * S) es' rows' ∧ m_put_right [stD s, .lst (plD p), tbD (shD P S c p.length) S es, .ols rows, .int (S : Nat)] = .ok (.bl true) [stD s', tbD (shD P S c p.length) S es', .ols rows'] := by
  obtain ⟨r, s1, e1, o1, hl, hv⟩ := row_ok hs hp h3.2
  have d2 := draw_ok o1 (m := 2) (by decide) (by decide)
  have o2 := drawS_ok o1 2
  generalize drawV s1 2 = v at d2
  generalize drawS s1 2 = s2 at d2 o2
  have ff := first_ok (rows := rows) (by rw [T.len]; exact hm) T.rO
  rw [T.len, T.free] at ff
  have pf : ∀ ρ, pkK m_first_free [.ols rows] ρ = .ok (numD (freeN es (P * S))) ρ := fun ρ => pkK_ok (by simpa [T.rfz] using ff) (by cases freeN es (P * S) <;> rfl)
  have hl2 : ((r.length : Nat) : Int) = ((p.length : Nat) : Int) := by omega
  have elen : es.length ≤ 1000 := Nat.le_trans T.le hm
  have hS' : 0 < S ∧ S ≤ 100 := ⟨hS.1, by omega⟩
  have p1 := put_ok (c := c) hP hS' elen (crow_tup hv hl2)
  have p2 := put_ok (c := c) hP hS' elen (crow_own hv hl2)
  have hz : szok es.length = some () := szok_of (by omega)
  have rO := rowD_isO6 r
  have rf := rowD_fz6 r
  have rL : oList [rowD r] = some (r.map cellD) := rfl
  have r0 : 0 < (r.map cellD).length := by rw [List.length_map]; omega
  have rT : isTy .list (rowD r) = some false := rfl
  have lf := like_full
  cases e : freeN es (P * S) with
  | none =>
    rw [e] at pf p1 p2
    dsimp only [numD] at pf p1 p2
    refine ⟨s2, es, rows, o2, T, ?_⟩
    have tO : (tbD (shD P S c p.length) S es).isO = true := rfl
    have ti : oinOf 1 (some (some (tbD (shD P S c p.length) S es))) = some ((["shape", "_rows"] : List Str), [shD P S c p.length, .odc 1 (ksN S es) (xsN es)]) := rfl
    generalize tbD (shD P S c p.length) S es = T0 at *
    generalize rowD r = rd at *
    generalize r.map cellD = rl at *
    generalize shD P S c p.length = sh at *
    generalize plD p = pl at *
    by_cases q : v = 1
    · simp [-draw_ok, m_put_right, g_put_right, e1, d2, q, pf, p1, rO, rf, rL, rT, ti, lf, mTry, fitsD, mIsN, offO]
      done
    · simp [-draw_ok, m_put_right, g_put_right, e1, d2, q, pf, p2, rO, rf, rL, rT, ti, lf, r0, mTry, fitsD, mIsN, offO]
      done
  | some n =>
    rw [e] at pf p1 p2
    dsimp only [numD] at pf p1 p2
    obtain ⟨hn, hx⟩ := freeN_some e
    refine ⟨s2, es ++ [(n, rowD r)], rows.set n (rowD r), o2, T.put hn hx (by omega), ?_⟩
    have tO : (tbD (shD P S c p.length) S es).isO = true := rfl
    have ti : oinOf 1 (some (some (tbD (shD P S c p.length) S es))) = some ((["shape", "_rows"] : List Str), [shD P S c p.length, .odc 1 (ksN S es) (xsN es)]) := rfl
    have ti2 : oinOf 1 (some (some (tbD (shD P S c p.length) S (es ++ [(n, rowD r)])))) = some ((["shape", "_rows"] : List Str), [shD P S c p.length, .odc 1 (ksN S (es ++ [(n, rowD r)])) (xsN (es ++ [(n, rowD r)]))]) := rfl
    have ra := row_at_ok (c := c) (k := p.length) (es := es ++ [(n, rowD r)]) hS.1 hn (by rw [atN_app hx, if_pos rfl]; rfl)
    rw [atN_app hx, if_pos rfl] at ra
    dsimp only [Option.getD_some] at ra
    have la := like_ad (n / S) (n % S)
    have lr := like_row (r := r) (by omega)
    have ade : D.tup [D.int ((n : Int) / (S : Int)), D.int ((n : Int) % (S : Int))] = adD (n / S) (n % S) := by simp [adD]
    have ao := adD_isO (n / S) (n % S)
    have af := adD_fz (n / S) (n % S)
    have sp : (0 : Int) < (S : Int) := by omega
    have sn : ¬ S = 0 := by omega
    have s1' : 0 < S := hS.1
    have s2' : S.log2 < 9000 := by
      have := Nat.log2_le_self S
      omega
    have nr : n < rows.length := by rw [T.len]; exact hn
    clear T hx
    generalize tbD (shD P S c p.length) S es = T0 at *
    generalize tbD (shD P S c p.length) S (es ++ [(n, rowD r)]) = T1 at *
    generalize rowD r = rd at *
    generalize r.map cellD = rl at *
    generalize shD P S c p.length = sh at *
    generalize plD p = pl at *
    generalize adD (n / S) (n % S) = A at *
    generalize D.odc 1 (ksN S es) (xsN es) = T3 at *
    by_cases q : v = 1
    · simp [-draw_ok, m_put_right, g_put_right, e1, d2, q, pf, p1, rO, rf, rL, rT, ti, ti2, ra, la, lr, ade, ao, af, sp, sn, nr, s1', s2', mTry]
      done
    · simp [-draw_ok, m_put_right, g_put_right, e1, d2, q, pf, p2, rO, rf, rL, rT, ti, ti2, ra, la, lr, ade, ao, af, sp, sn, nr, s1', s2', r0, mTry]
      done

/-! ## the law's turns -/
section
variable {P S : Nat} {c : Int} {p : List (List Int)} {e0 e2 e6 e8 e9 e10 : Option D}
theorem law4_turn {s : Strm'} (hs : s.Ok) (hp : PoolOk p) (h3 : 1 ≤ p.length ∧ p.length ≤ 3) (hP : P ≤ 100) (hS : 0 < S ∧ S ≤ 8) (hm : P * S ≤ 1000) {es : List (Nat × D)} {rows : List D} (T : Tbl (P * S) es rows) :
    ∃ s' es' rows', s'.Ok ∧ Tbl (P * S) es' rows' ∧ g_law_4 [e0, some (stD s), e2, some (.int (S : Nat)), some (.lst (plD p)), some (tbD (shD P S c p.length) S es), e6, some (.ols rows), e8, e9, e10, none] =
      .nx [e0, some (stD s'), e2, some (.int (S : Nat)), some (.lst (plD p)), some (tbD (shD P S c p.length) S es'), e6, some (.ols rows'), e8, e9, e10, none] := by
  obtain ⟨s', es', rows', o1, T', e⟩ := right_ok hs hp h3 hP hS hm (c := c) T
  refine ⟨s', es', rows', o1, T', ?_⟩
  generalize tbD (shD P S c p.length) S es = T0 at *
  generalize tbD (shD P S c p.length) S es' = T1 at *
  generalize plD p = pl at *
  simp [g_law_4, e]
theorem rows_lv {rows : List D} (hl : rows.length ≤ 1000) (ho : ∀ d ∈ rows, d = .non ∨ ∃ r : List (Option Int), r.length ≤ 3 ∧ d = rowD r) {e1 e3 e4 e5 : Option D} :
    lvK 7 (kName 11) (mTest (mOp oNotA (mVar 11) (mP .non))) (mVar 11) [11] rows [e0, e1, e2, e3, e4, e5, e6, some (.ols rows), e8, e9, e10, none] =
      .ok (.ols (rows.filter fun d => !isN d)) [e0, e1, e2, e3, e4, e5, e6, some (.ols rows), e8, e9, e10, none] := by
  have hO : ∀ d ∈ rows, d.isO = false := fun d hd => by rcases ho d hd with rfl | ⟨r, _, rfl⟩ <;> rfl
  have key : ∀ (n k : Nat) (acc : List D), n = rows.length + 1 - k → acc.length ≤ k → k ≤ rows.length →
      lcGoV 7 (lcStep (kName 11) (mTest (mOp oNotA (mVar 11) (mP .non))) (mVar 11) [11]) [11] n k acc [e0, e1, e2, e3, e4, e5, e6, some (.ols rows), e8, e9, e10, none] =
        some (acc ++ (rows.drop k).filter (fun d => !isN d), [e0, e1, e2, e3, e4, e5, e6, some (.ols rows), e8, e9, e10, none]) := by
    intro n
    induction n with
    | zero => intro k acc h1 h2 h3; omega
    | succ n ih =>
      intro k acc h1 h2 h3
      rw [lcGoV]
      dsimp only [List.getElem?_cons_succ, List.getElem?_cons_zero, seqOf]
      by_cases hk : k < rows.length
      · have ek : rows[k]? = some rows[k] := List.getElem?_eq_getElem hk
        have hd := hO _ (List.getElem_mem hk)
        rw [ek]
        dsimp only
        rw [if_neg (by rw [hd]; exact Bool.false_ne_true), List.drop_eq_getElem_cons hk]
        generalize rows[k] = d at *
        cases q : isN d with
        | true =>
          rw [lcStep_no (ρ1 := [e0, e1, e2, e3, e4, e5, e6, some (.ols rows), e8, e9, e10, some d]) (ρ2 := [e0, e1, e2, e3, e4, e5, e6, some (.ols rows), e8, e9, e10, some d]) rfl (by simp [hd, q])]
          dsimp only
          rw [show wipeE [e0, e1, e2, e3, e4, e5, e6, some (.ols rows), e8, e9, e10, some d] [11] = [e0, e1, e2, e3, e4, e5, e6, some (.ols rows), e8, e9, e10, none] from rfl, ih (k + 1) acc (by omega) (by omega) (by omega), List.filter_cons_of_neg (by rw [q]; exact Bool.false_ne_true)]
        | false =>
          rw [lcStep_yes (ρ1 := [e0, e1, e2, e3, e4, e5, e6, some (.ols rows), e8, e9, e10, some d]) (ρ2 := [e0, e1, e2, e3, e4, e5, e6, some (.ols rows), e8, e9, e10, some d]) (ρ3 := [e0, e1, e2, e3, e4, e5, e6, some (.ols rows), e8, e9, e10, some d]) (y := d) rfl (by simp [hd, q]) (by simp [hd])]
          dsimp only
          rw [if_pos (by omega), show wipeE [e0, e1, e2, e3, e4, e5, e6, some (.ols rows), e8, e9, e10, some d] [11] = [e0, e1, e2, e3, e4, e5, e6, some (.ols rows), e8, e9, e10, none] from rfl, ih (k + 1) (acc ++ [d]) (by omega) (by simp; omega) (by omega), List.filter_cons_of_pos (by rw [q]; rfl)]
          simp
      · rw [List.getElem?_eq_none (by omega), List.drop_eq_nil_of_le (by omega)]
        simp
  unfold lvK
  rw [show wipeE [e0, e1, e2, e3, e4, e5, e6, some (.ols rows), e8, e9, e10, none] [11] = [e0, e1, e2, e3, e4, e5, e6, some (.ols rows), e8, e9, e10, none] from rfl, key (rows.length + 1) 0 [] (by omega) (by simp) (by omega)]
  rfl
theorem like_int (n : Int) : m_alike [.int n, .int n] = .ok (.bl true) [] := alike_self rfl (by simp [D.sz])
theorem law3_turn {s : Strm'} (hs : s.Ok) (hp : PoolOk p) (h3 : 1 ≤ p.length ∧ p.length ≤ 3) (hP : 0 < P ∧ P ≤ 100) (hS : 0 < S ∧ S ≤ 8) (hm : P * S ≤ 1000) {es : List (Nat × D)} {rows : List D} (T : Tbl (P * S) es rows) :
    ∃ s' es' rows' f10, s'.Ok ∧ Tbl (P * S) es' rows' ∧ g_law_3 [e0, some (stD s), e2, some (.int (S : Nat)), some (.lst (plD p)), some (tbD (shD P S c p.length) S es), some (.int ((P * S : Nat) : Int)), some (.ols rows), e8, e9, e10, none] =
      .nx [e0, some (stD s'), e2, some (.int (S : Nat)), some (.lst (plD p)), some (tbD (shD P S c p.length) S es'), some (.int ((P * S : Nat) : Int)), some (.ols rows'), e8, e9, f10, none] := by
  have m0 : 0 < P * S := Nat.mul_pos hP.1 hS.1
  generalize hM : P * S = M at *
  have dm := draw_ok hs (m := (M : Nat)) (by omega) (by omega)
  have om := drawS_ok hs (M : Nat)
  have b1 := drawV_nn s (m := (M : Nat)) (by omega)
  have b2 := drawV_lt s (m := (M : Nat)) (by omega)
  generalize drawV s (M : Nat) = a at *
  generalize drawS s (M : Nat) = s1 at *
  obtain ⟨j, rfl⟩ := Int.eq_ofNat_of_zero_le b1
  have hj : j < M := by omega
  have d2 := draw_ok om (m := 2) (by decide) (by decide)
  have o2 := drawS_ok om 2
  generalize drawV s1 2 = v at *
  generalize drawS s1 2 = s2 at *
  have tail : ∀ (s' : Strm') (es' : List (Nat × D)) (rows' : List D), Tbl M es' rows' →
      mIfS (mNot (mTru (frz (mCall [] (noX m_alike) (bCons (frz (mCall [0] (noX m_Table_used) (bRecv1V 1 5))) (bCons (mCb oLen (mCons (frz (mLcV 7 (kName 11) (mTest (mOp oNotA (mVar 11) (mP .non))) (mVar 11) [11])) mNil)) bNil))))))
        (mRet (mP (.bl false))) mNext [e0, some (stD s'), e2, some (.int (S : Nat)), some (.lst (plD p)), some (tbD (shD P S c p.length) S es'), some (.int (M : Nat)), some (.ols rows'), e8, e9, some (.int (j : Nat)), none] =
      .nx [e0, some (stD s'), e2, some (.int (S : Nat)), some (.lst (plD p)), some (tbD (shD P S c p.length) S es'), some (.int (M : Nat)), some (.ols rows'), e8, e9, some (.int (j : Nat)), none] := fun s' es' rows' T' => by
    have u := used_ok (sh := shD P S c p.length) (S := S) (es := es')
    have lv := rows_lv (rows := rows') (by rw [T'.len]; exact hm) T'.flat (e0 := e0) (e2 := e2) (e6 := some (.int (M : Nat))) (e8 := e8) (e9 := e9) (e10 := some (.int (j : Nat))) (e1 := some (stD s')) (e3 := some (.int (S : Nat))) (e4 := some (.lst (plD p))) (e5 := some (tbD (shD P S c p.length) S es'))
    have fl : (fzs (rows'.filter fun d => !isN d)).length = es'.length := by
      rw [fzs_eq, List.length_map, ← List.countP_eq_length_filter, T'.cnt]
    have li := like_int (es'.length : Nat)
    have ti : oinOf 1 (some (some (tbD (shD P S c p.length) S es'))) = some ((["shape", "_rows"] : List Str), [shD P S c p.length, .odc 1 (ksN S es') (xsN es')]) := rfl
    generalize (rows'.filter fun d => !isN d) = fr at *
    generalize tbD (shD P S c p.length) S es' = T1 at *
    generalize plD p = pl at *
    generalize D.odc 1 (ksN S es') (xsN es') = T3 at *
    simp [u, lv, fl, li, ti]
  have hz := T.at_ j hj
  have ad : ∀ d : D, rows[j]? = some d → d.isO = false := fun d h => T.rO d (List.mem_of_getElem? h)
  cases e : atN es j with
  | none =>
    rw [e] at hz
    obtain ⟨s3, es3, rows3, o3, T3, pr⟩ := right_ok o2 hp h3 hP.2 hS (by rw [hM]; exact hm) (c := c) (by rw [hM]; exact T)
    rw [hM] at T3
    have tl := tail s3 es3 rows3 T3
    refine ⟨s3, es3, rows3, some (.int (j : Nat)), o3, T3, ?_⟩
    rw [← tl]
    dsimp only [Option.getD_none] at hz
    clear tail tl
    generalize tbD (shD P S c p.length) S es = T0 at *
    generalize tbD (shD P S c p.length) S es3 = T1 at *
    generalize plD p = pl at *
    unfold g_law_3
    by_cases q : v = 0
    · simp [-draw_ok, dm, d2, q, hz, pr]
      done
    · simp [-draw_ok, dm, d2, q, pr]
      done
  | some x =>
    rw [e] at hz
    dsimp only [Option.getD_some] at hz
    obtain ⟨r, hr, rfl⟩ := T.val e
    by_cases q : v = 0
    · have tk := take_ok (c := c) (k := p.length) hS.1 (by rw [hM]; exact hj) e
      have T3 := T.take hj e
      have tl := tail s2 _ _ T3
      have lr := like_row hr
      refine ⟨s2, delN es j, rows.set j .non, some (.int (j : Nat)), o2, T3, ?_⟩
      rw [← tl]
      have ade : D.tup [D.int ((j : Int) / (S : Int)), D.int ((j : Int) % (S : Int))] = adD (j / S) (j % S) := by simp [adD]
      have ao := adD_isO (j / S) (j % S)
      have rO := rowD_isO6 r
      have rN := rowD_isN r
      have rf := rowD_fz6 r
      have sn : ¬ S = 0 := by omega
      have s1' : 0 < S := hS.1
      have s2' : S.log2 < 9000 := by
        have := Nat.log2_le_self S
        omega
      have jr : j < rows.length := by rw [T.len]; exact hj
      have hg : rows[j] = rowD r := by
        rw [List.getElem?_eq_getElem jr] at hz
        exact Option.some.inj hz
      have ti : oinOf 1 (some (some (tbD (shD P S c p.length) S es))) = some ((["shape", "_rows"] : List Str), [shD P S c p.length, .odc 1 (ksN S es) (xsN es)]) := rfl
      clear tail tl T T3 ad e
      generalize tbD (shD P S c p.length) S es = T0 at *
      generalize tbD (shD P S c p.length) S (delN es j) = T1 at *
      generalize plD p = pl at *
      generalize adD (j / S) (j % S) = A at *
      generalize rowD r = rd at *
      generalize D.odc 1 (ksN S es) (xsN es) = T3 at *
      unfold g_law_3
      simp [-draw_ok, dm, d2, q, hz, g_law_2, tk, lr, ade, ao, rO, rN, rf, sn, s1', s2', jr, hg, ti]
      done
    · obtain ⟨s3, es3, rows3, o3, T3, pr⟩ := right_ok o2 hp h3 hP.2 hS (by rw [hM]; exact hm) (c := c) (by rw [hM]; exact T)
      rw [hM] at T3
      have tl := tail s3 es3 rows3 T3
      refine ⟨s3, es3, rows3, some (.int (j : Nat)), o3, T3, ?_⟩
      rw [← tl]
      clear tail tl
      generalize tbD (shD P S c p.length) S es = T0 at *
      generalize tbD (shD P S c p.length) S es3 = T1 at *
      generalize plD p = pl at *
      unfold g_law_3
      simp [-draw_ok, dm, d2, q, pr]
      done
theorem law1_turn (hS : 0 < S ∧ S ≤ 8) {es : List (Nat × D)} {rows : List D} (T : Tbl (P * S) es rows) {k : Int} {e1 e4 e11 : Option D} {j : Nat} (hj : j < P * S) :
    g_law_1 [e0, e1, e2, some (.int (S : Nat)), e4, some (tbD (shD P S c k) S es), e6, some (.ols rows), e8, some (.int (j : Nat)), e10, e11] =
      .nx [e0, e1, e2, some (.int (S : Nat)), e4, some (tbD (shD P S c k) S es), e6, some (.ols rows), e8, some (.int (j : Nat)), e10, e11] := by
  have hz := T.at_ j hj
  have vO : ((atN es j).getD .non).isO = false := T.rO _ (List.mem_of_getElem? hz)
  have ra := row_at_ok (c := c) (k := k) hS.1 hj vO
  have vf : ((atN es j).getD .non).fz = (atN es j).getD .non := by
    cases e : atN es j with
    | none => simp
    | some x =>
      obtain ⟨r, _, rfl⟩ := T.val e
      exact rowD_fz6 r
  have la : m_alike [(atN es j).getD .non, (atN es j).getD .non] = .ok (.bl true) [] := by
    cases e : atN es j with
    | none => exact alike_self rfl (by simp [D.sz])
    | some x =>
      obtain ⟨r, hr, rfl⟩ := T.val e
      exact like_row hr
  have ade : D.tup [D.int ((j : Int) / (S : Int)), D.int ((j : Int) % (S : Int))] = adD (j / S) (j % S) := by simp [adD]
  have ao := adD_isO (j / S) (j % S)
  have sn : ¬ S = 0 := by omega
  have s1' : 0 < S := hS.1
  have s2' : S.log2 < 9000 := by
    have := Nat.log2_le_self S
    omega
  have ti : oinOf 1 (some (some (tbD (shD P S c k) S es))) = some ((["shape", "_rows"] : List Str), [shD P S c k, .odc 1 (ksN S es) (xsN es)]) := rfl
  clear T
  generalize (atN es j).getD .non = x at *
  generalize tbD (shD P S c k) S es = T0 at *
  generalize adD (j / S) (j % S) = A at *
  generalize D.odc 1 (ksN S es) (xsN es) = T3 at *
  unfold g_law_1
  simp [hz, ra, vO, vf, la, ade, ao, sn, s1', s2', ti]
end

/-! ## the law -/
theorem oshape_ok {p s c k : Int} (hp : 1 ≤ p ∧ p ≤ 16) (hs : 1 ≤ s ∧ s ≤ 8) (hc : 1 ≤ c ∧ c ≤ 16) (hk : 1 ≤ k ∧ k ≤ 3) :
    m_Shape_init [.oin 0 [] [], .int p, .int s, .int c, .int k] = .ok .non [.oin 0 ["pages", "slots", "chunk", "columns"] [.int p, .int s, .int c, .int k]] := shape_ok hp hs hc hk
theorem table_made (sh : D) (h1 : sh.isO = false) (S : Nat) : m_Table_init [.oin 1 [] [], sh] = .ok .non [tbD sh S []] := by
  show _ = Ans.ok D.non [.oin 1 ["shape", "_rows"] [sh, .odc 1 [] []]]
  simp [m_Table_init, g_Table_init, h1]
theorem Tbl.nil (m : Nat) : Tbl m [] (List.replicate m .non) := by
  refine ⟨by simp, by simp, fun n hn => by rw [List.getElem?_replicate, if_pos hn]; rfl, (fun e h => nomatch h), ?_⟩
  rw [List.countP_replicate]
  simp
theorem law_true (ns : List Int) (h : ns.length ≤ 63) : m_law [.scr ns] = .ok (.bl true) [] := by
  have so := stream_Ok h
  have se := stream_ok ns h
  generalize (⟨ns, 0, 0, 0⟩ : Strm') = s0 at *
  obtain ⟨s1, p, s, c, k, o1, hp, hs, hc, hk, e1⟩ := sizes_ok so (P := 16) (S := 8) (by decide) (by decide)
  have sh := oshape_ok hp hs hc hk
  obtain ⟨P, rfl⟩ := Int.eq_ofNat_of_zero_le (show 0 ≤ p by omega)
  obtain ⟨S, rfl⟩ := Int.eq_ofNat_of_zero_le (show 0 ≤ s by omega)
  obtain ⟨w, rfl⟩ := Int.eq_ofNat_of_zero_le (show 0 ≤ k by omega)
  have hP : 0 < P ∧ P ≤ 16 := by omega
  have hS : 0 < S ∧ S ≤ 8 := by omega
  have hM : P * S ≤ 128 := Nat.le_trans (Nat.mul_le_mul hP.2 hS.2) (by decide)
  have m0 : 0 < P * S := Nat.mul_pos hP.1 hS.1
  obtain ⟨pl, s2, e2, o2, hpl, hw⟩ := pool_ok o1 (w := w) (by omega) (by omega)
  subst hw
  have h3 : 1 ≤ pl.length ∧ pl.length ≤ 3 := by omega
  have tm := table_made (shD P S c pl.length) rfl S
  have T0 := Tbl.nil (P * S)
  have rp : ∀ n : Nat, (List.replicate n [D.non]).flatten = List.replicate n D.non := fun n => by induction n with
    | zero => rfl
    | succ n ih => rw [List.replicate_succ, List.flatten_cons, ih]; rfl
  have rows0 : oMulA (.lst [.non]) (.int ((P * S : Nat) : Int)) = some (.ols (List.replicate (P * S) .non)) := by
    rw [oMulA_lst, if_pos ⟨by omega, by simp; omega, by omega⟩, Int.toNat_natCast, rp]
  have mul0 : oMulA (.int (P : Nat)) (.int (S : Nat)) = some (.int ((P * S : Nat) : Int)) := by
    rw [oMulA_int, sml_of (by omega)]
    simp
  have da := draw_ok o2 (m := ((P * S : Nat) : Int) + 2) (by omega) (by omega)
  have oa := drawS_ok o2 (((P * S : Nat) : Int) + 2)
  have a1 := drawV_nn s2 (m := ((P * S : Nat) : Int) + 2) (by omega)
  have a2 := drawV_lt s2 (m := ((P * S : Nat) : Int) + 2) (by omega)
  generalize drawV s2 (((P * S : Nat) : Int) + 2) = a at *
  generalize drawS s2 (((P * S : Nat) : Int) + 2) = s3 at *
  have db := draw_ok oa (m := 3) (by decide) (by decide)
  have ob := drawS_ok oa 3
  generalize drawV s3 3 = b at *
  generalize drawS s3 3 = s4 at *
  obtain ⟨N, hN, rfl⟩ : ∃ N : Nat, N ≤ 1000 ∧ a = (N : Int) := ⟨a.toNat, by omega, by omega⟩
  -- the filling
  have fill : ∀ (e0 e2 e8 : Option D) (n : Nat), ∃ s' es rows f9, s'.Ok ∧ Tbl (P * S) es rows ∧
      mLoop (kName 9) g_law_4 (upto n) [e0, some (stD s4), e2, some (.int (S : Nat)), some (.lst (plD pl)), some (tbD (shD P S c pl.length) S []), some (.int ((P * S : Nat) : Int)), some (.ols (List.replicate (P * S) .non)), e8, none, none, none] =
        .nx [e0, some (stD s'), e2, some (.int (S : Nat)), some (.lst (plD pl)), some (tbD (shD P S c pl.length) S es), some (.int ((P * S : Nat) : Int)), some (.ols rows), e8, f9, none, none] := fun e0 e2 e8 n => by
    obtain ⟨ρ', lp, s', es, rows, f9, x1, x2, hρ⟩ := loop_nx (tg := kName 9) (body := g_law_4) (I := fun _ ρ => ∃ s' es rows f9, s'.Ok ∧ Tbl (P * S) es rows ∧
        ρ = [e0, some (stD s'), e2, some (.int (S : Nat)), some (.lst (plD pl)), some (tbD (shD P S c pl.length) S es), some (.int ((P * S : Nat) : Int)), some (.ols rows), e8, f9, none, none])
      (ds := upto n) (ρ := [e0, some (stD s4), e2, some (.int (S : Nat)), some (.lst (plD pl)), some (tbD (shD P S c pl.length) S []), some (.int ((P * S : Nat) : Int)), some (.ols (List.replicate (P * S) .non)), e8, none, none, none]) (k := 0)
      ⟨s4, [], _, none, ob, T0, rfl⟩ (fun i d ρ _ ⟨s', es, rows, f9, x1, x2, hρ⟩ => by
        subst hρ
        obtain ⟨s5, es5, rows5, y1, y2, y3⟩ := law4_turn x1 hpl h3 (by omega) hS (by omega) x2 (c := c) (e0 := e0) (e2 := e2) (e6 := some (.int ((P * S : Nat) : Int))) (e8 := e8) (e9 := some d) (e10 := none)
        exact ⟨_, _, rfl, .inl y3, s5, es5, rows5, some d, y1, y2, rfl⟩)
    subst hρ
    exact ⟨s', es, rows, f9, x1, x2, lp⟩
  -- the deeds and the last look
  have rest : ∀ (e0 e2 e8 e9 : Option D) {s5 : Strm'} {es : List (Nat × D)} {rows : List D}, s5.Ok → Tbl (P * S) es rows → ∃ ρ', 
      (mSeq (mFor (mRg1 (mCons (frz (mOp oAddA (mP (.int 1)) (frz (mCall [0] (noX m_draw) (bSlot 1 (bCons (mP (.int 12)) bNil)))))) mNil)) (kName 9) g_law_3)
        (mSeq (mFor (mRg1 (mCons (mVar 6) mNil)) (kName 9) g_law_1) (mRet (mP (.bl true)))))
        [e0, some (stD s5), e2, some (.int (S : Nat)), some (.lst (plD pl)), some (tbD (shD P S c pl.length) S es), some (.int ((P * S : Nat) : Int)), some (.ols rows), e8, e9, none, none] = .rt (.bl true) ρ' := fun e0 e2 e8 e9 s5 es rows o5 T => by
    have d12 := draw_ok o5 (m := 12) (by decide) (by decide)
    have o12 := drawS_ok o5 12
    have b1 := drawV_nn s5 (m := 12) (by decide)
    have b2 := drawV_lt s5 (m := 12) (by decide)
    generalize drawV s5 12 = u at *
    generalize drawS s5 12 = s6 at *
    obtain ⟨n, hn, rfl⟩ : ∃ n : Nat, n ≤ 1000 ∧ u = (n : Int) := ⟨u.toNat, by omega, by omega⟩
    have rn : rg1 [.int (1 + (n : Int))] = some (upto (n + 1)) := by
      have e : (1 + (n : Int)) = ((n + 1 : Nat) : Int) := by omega
      rw [e]
      exact rg1_n (by omega)
    have rm : rg1 [.int ((P * S : Nat) : Int)] = some (upto (P * S)) := rg1_n (by omega)
    obtain ⟨ρ', lp, s', es', rows', f9, f10, x1, x2, hρ⟩ := loop_nx (tg := kName 9) (body := g_law_3) (I := fun _ ρ => ∃ s' es rows f9 f10, s'.Ok ∧ Tbl (P * S) es rows ∧
        ρ = [e0, some (stD s'), e2, some (.int (S : Nat)), some (.lst (plD pl)), some (tbD (shD P S c pl.length) S es), some (.int ((P * S : Nat) : Int)), some (.ols rows), e8, f9, f10, none])
      (ds := upto (n + 1)) (ρ := [e0, some (stD s6), e2, some (.int (S : Nat)), some (.lst (plD pl)), some (tbD (shD P S c pl.length) S es), some (.int ((P * S : Nat) : Int)), some (.ols rows), e8, e9, none, none]) (k := 0)
      ⟨s6, es, rows, e9, none, o12, T, rfl⟩ (fun i d ρ _ ⟨s', es, rows, f9, f10, x1, x2, hρ⟩ => by
        subst hρ
        obtain ⟨s7, es7, rows7, g10, y1, y2, y3⟩ := law3_turn x1 hpl h3 (by omega) hS (by omega) x2 (c := c) (e0 := e0) (e2 := e2) (e8 := e8) (e9 := some d) (e10 := f10)
        exact ⟨_, _, rfl, .inl y3, s7, es7, rows7, some d, g10, y1, y2, rfl⟩)
    subst hρ
    obtain ⟨ρ2, lp2, _, f9', hρ2⟩ := loop_nx (tg := kName 9) (body := g_law_1) (I := fun i ρ => i ≤ P * S ∧ ∃ f9, ρ = [e0, some (stD s'), e2, some (.int (S : Nat)), some (.lst (plD pl)), some (tbD (shD P S c pl.length) S es'), some (.int ((P * S : Nat) : Int)), some (.ols rows'), e8, f9, f10, none])
      (ds := upto (P * S)) (ρ := [e0, some (stD s'), e2, some (.int (S : Nat)), some (.lst (plD pl)), some (tbD (shD P S c pl.length) S es'), some (.int ((P * S : Nat) : Int)), some (.ols rows'), e8, f9, f10, none]) (k := 0)
      ⟨Nat.zero_le _, f9, rfl⟩ (fun i d ρ hi ⟨_, f9, hρ⟩ => by
        subst hρ
        obtain ⟨h4, h5⟩ := upto_at hi
        subst h5
        exact ⟨_, _, rfl, .inl (law1_turn hS x2 h4), by omega, _, rfl⟩)
    subst hρ2
    refine ⟨[e0, some (stD s'), e2, some (.int (S : Nat)), some (.lst (plD pl)), some (tbD (shD P S c pl.length) S es'), some (.int ((P * S : Nat) : Int)), some (.ols rows'), e8, f9', f10, none], ?_⟩
    clear x2 T
    generalize tbD (shD P S c pl.length) S es = T1 at *
    generalize tbD (shD P S c pl.length) S es' = T2 at *
    generalize plD pl = pd at *
    generalize P * S = M at *
    simp [-draw_ok, -rg1_int, d12, rn, lp, rm, lp2]
  have g : ∀ {e0 e2 e8 : Option D} {n : Nat}, n ≤ 1000 → ∃ ρ', (mSeq (mFor (mRg1 (mCons (mVar 8) mNil)) (kName 9) g_law_4)
      (mSeq (mFor (mRg1 (mCons (frz (mOp oAddA (mP (.int 1)) (frz (mCall [0] (noX m_draw) (bSlot 1 (bCons (mP (.int 12)) bNil)))))) mNil)) (kName 9) g_law_3)
        (mSeq (mFor (mRg1 (mCons (mVar 6) mNil)) (kName 9) g_law_1) (mRet (mP (.bl true))))))
        [e0, some (stD s4), e2, some (.int (S : Nat)), some (.lst (plD pl)), some (tbD (shD P S c pl.length) S []), some (.int ((P * S : Nat) : Int)), some (.ols (List.replicate (P * S) .non)), some (.int (n : Nat)), none, none, none] = .rt (.bl true) ρ' := fun {e0 e2 e8 n} hn => by
    obtain ⟨s', es, rows, f9, x1, x2, lp⟩ := fill e0 e2 (some (.int (n : Nat))) n
    obtain ⟨ρ', rs⟩ := rest e0 e2 (some (.int (n : Nat))) f9 x1 x2
    refine ⟨ρ', ?_⟩
    rw [← rs]
    have rm : rg1 [.int (n : Nat)] = some (upto n) := rg1_n (by omega)
    rw [a_mSeq, a_mFor, a_mRg1]
    clear x2 T0 rs fill rest
    generalize List.replicate (P * S) D.non = rr at *
    generalize tbD (shD P S c pl.length) S es = T1 at *
    generalize tbD (shD P S c pl.length) S [] = T2 at *
    generalize plD pl = pd at *
    generalize P * S = M at *
    simp [-rg1_int, -a_mSeq, rm, lp]
  clear fill rest
  have shF : (D.oin 0 ["pages", "slots", "chunk", "columns"] [.int (P : Nat), .int (S : Nat), .int c, .int (pl.length : Nat)]).fz = shD P S c pl.length := by simp [shD]
  have hl : ∃ ρ', g_law [some (.scr ns), none, none, none, none, none, none, none, none, none, none, none] = .rt (.bl true) ρ' := by
    unfold g_law
    by_cases q : b = 2
    · obtain ⟨ρ', gg⟩ := g (e0 := some (.scr ns)) (e2 := some (.lst [.int (P : Nat), .int (S : Nat), .int c, .int (pl.length : Nat)])) (e8 := none) (n := P * S) (by omega)
      refine ⟨ρ', ?_⟩
      rw [← gg]
      clear g gg T0
      generalize List.replicate (P * S) D.non = rr at *
      generalize P * S = M at *
      generalize tbD (shD P S c pl.length) S [] = T2 at *
      generalize shD P S c pl.length = sh0 at *
      simp [-draw_ok, -rg1_int, se, e1, e2, sh, shF, tm, mul0, rows0, da, db, q]
    · obtain ⟨ρ', gg⟩ := g (e0 := some (.scr ns)) (e2 := some (.lst [.int (P : Nat), .int (S : Nat), .int c, .int (pl.length : Nat)])) (e8 := none) (n := N) (by omega)
      refine ⟨ρ', ?_⟩
      rw [← gg]
      clear g gg T0
      generalize List.replicate (P * S) D.non = rr at *
      generalize P * S = M at *
      generalize tbD (shD P S c pl.length) S [] = T2 at *
      generalize shD P S c pl.length = sh0 at *
      simp [-draw_ok, -rg1_int, se, e1, e2, sh, shF, tm, mul0, rows0, da, db, q]
  obtain ⟨ρ', hl⟩ := hl
  simp [m_law, hl]


def clsItem : Stmt → Nat → Stmt
  | .ClassDef (body := b) .., j => b.getD j (.Pass ⟨0, 0, 0, 0⟩)
  | s, _ => s
def topS (i : Nat) : Stmt := PySem.Challenge.pw_wholepages_k04_first_empty_address.main.body.getD i (.Pass ⟨0, 0, 0, 0⟩)
abbrev s_NoPlace_init : Stmt := clsItem (topS 5) 0
abbrev N_NoPlace_init : List Str := ["self", "place"]
theorem sc_NoPlace_init : FnScope N_NoPlace_init ["self", "place"] (defScope s_NoPlace_init) := ⟨rfl, rfl, rfl, by decide +kernel, rfl, by decide +kernel, by decide +kernel⟩
abbrev s_BadRow_init : Stmt := clsItem (topS 6) 0
abbrev N_BadRow_init : List Str := ["self", "row"]
theorem sc_BadRow_init : FnScope N_BadRow_init ["self", "row"] (defScope s_BadRow_init) := ⟨rfl, rfl, rfl, by decide +kernel, rfl, by decide +kernel, by decide +kernel⟩
abbrev s_SlotTaken_init : Stmt := clsItem (topS 7) 0
abbrev N_SlotTaken_init : List Str := ["self", "address"]
theorem sc_SlotTaken_init : FnScope N_SlotTaken_init ["self", "address"] (defScope s_SlotTaken_init) := ⟨rfl, rfl, rfl, by decide +kernel, rfl, by decide +kernel, by decide +kernel⟩
abbrev s_EmptySlot_init : Stmt := clsItem (topS 8) 0
abbrev N_EmptySlot_init : List Str := ["self", "address"]
theorem sc_EmptySlot_init : FnScope N_EmptySlot_init ["self", "address"] (defScope s_EmptySlot_init) := ⟨rfl, rfl, rfl, by decide +kernel, rfl, by decide +kernel, by decide +kernel⟩
abbrev s_is_between : Stmt := topS 11
abbrev N_is_between : List Str := ["value", "low", "high"]
theorem sc_is_between : FnScope N_is_between ["value", "low", "high"] (defScope s_is_between) := ⟨rfl, rfl, rfl, by decide +kernel, rfl, by decide +kernel, by decide +kernel⟩
abbrev s_check_extent : Stmt := topS 13
abbrev N_check_extent : List Str := ["value", "most"]
theorem sc_check_extent : FnScope N_check_extent ["value", "most"] (defScope s_check_extent) := ⟨rfl, rfl, rfl, by decide +kernel, rfl, by decide +kernel, by decide +kernel⟩
abbrev s_Shape_contains : Stmt := clsItem (topS 14) 10
abbrev N_Shape_contains : List Str := ["self", "address", "page", "slot"]
theorem sc_Shape_contains : FnScope N_Shape_contains ["self", "address"] (defScope s_Shape_contains) := ⟨rfl, rfl, rfl, by decide +kernel, rfl, by decide +kernel, by decide +kernel⟩
abbrev s_check_address : Stmt := topS 15
abbrev N_check_address : List Str := ["address", "shape"]
theorem sc_check_address : FnScope N_check_address ["address", "shape"] (defScope s_check_address) := ⟨rfl, rfl, rfl, by decide +kernel, rfl, by decide +kernel, by decide +kernel⟩
abbrev s_check_row : Stmt := topS 17
abbrev N_check_row : List Str := ["row", "columns", "value"]
theorem sc_check_row : FnScope N_check_row ["row", "columns"] (defScope s_check_row) := ⟨rfl, rfl, rfl, by decide +kernel, rfl, by decide +kernel, by decide +kernel⟩
abbrev s__law_stream : Stmt := topS 20
abbrev N__law_stream : List Str := ["_law_script"]
theorem sc__law_stream : FnScope N__law_stream ["_law_script"] (defScope s__law_stream) := ⟨rfl, rfl, rfl, by decide +kernel, rfl, by decide +kernel, by decide +kernel⟩
abbrev s__law_draw : Stmt := topS 21
abbrev N__law_draw : List Str := ["_law_stream_here", "_law_many", "_law_place", "_law_cell", "_law_number_here"]
theorem sc__law_draw : FnScope N__law_draw ["_law_stream_here", "_law_many"] (defScope s__law_draw) := ⟨rfl, rfl, rfl, by decide +kernel, rfl, by decide +kernel, by decide +kernel⟩
abbrev s__law_number : Stmt := topS 22
abbrev N__law_number : List Str := ["_law_stream_here", "_law_most", "_law_kind"]
theorem sc__law_number : FnScope N__law_number ["_law_stream_here", "_law_most"] (defScope s__law_number) := ⟨rfl, rfl, rfl, by decide +kernel, rfl, by decide +kernel, by decide +kernel⟩
abbrev s__law_pool : Stmt := topS 23
abbrev N__law_pool : List Str := ["_law_stream_here", "_law_wide", "_law_pool_here", "_law_c", "_law_numbers", "_law_k"]
theorem sc__law_pool : FnScope N__law_pool ["_law_stream_here", "_law_wide"] (defScope s__law_pool) := ⟨rfl, rfl, rfl, by decide +kernel, rfl, by decide +kernel, by decide +kernel⟩
abbrev s__law_row : Stmt := topS 24
abbrev N__law_row : List Str := ["_law_stream_here", "_law_pool_here", "_law_row_here", "_law_numbers", "_law_kind"]
theorem sc__law_row : FnScope N__law_row ["_law_stream_here", "_law_pool_here"] (defScope s__law_row) := ⟨rfl, rfl, rfl, by decide +kernel, rfl, by decide +kernel, by decide +kernel⟩
abbrev s__law_sizes : Stmt := topS 25
abbrev N__law_sizes : List Str := ["_law_stream_here", "_law_pages", "_law_slots", "_law_sizes_here", "_law_most", "_law_kind"]
theorem sc__law_sizes : FnScope N__law_sizes ["_law_stream_here", "_law_pages", "_law_slots"] (defScope s__law_sizes) := ⟨rfl, rfl, rfl, by decide +kernel, rfl, by decide +kernel, by decide +kernel⟩
abbrev s__law_alike : Stmt := topS 26
abbrev N__law_alike : List Str := ["_law_told", "_law_due", "_law_left", "_law_k", "_law_pair", "_law_one", "_law_two", "_law_at"]
theorem sc__law_alike : FnScope N__law_alike ["_law_told", "_law_due"] (defScope s__law_alike) := ⟨rfl, rfl, rfl, by decide +kernel, rfl, by decide +kernel, by decide +kernel⟩
abbrev s__law_first_free : Stmt := topS 27
abbrev N__law_first_free : List Str := ["_law_rows", "_law_k"]
theorem sc__law_first_free : FnScope N__law_first_free ["_law_rows"] (defScope s__law_first_free) := ⟨rfl, rfl, rfl, by decide +kernel, rfl, by decide +kernel, by decide +kernel⟩
abbrev s_Shape_addresses : Stmt := clsItem (topS 14) 9
abbrev N_Shape_addresses : List Str := ["self", "page", "slot"]
theorem sc_Shape_addresses : FnScope N_Shape_addresses ["self"] (defScope s_Shape_addresses) := ⟨rfl, rfl, rfl, by decide +kernel, rfl, by decide +kernel, by decide +kernel⟩
abbrev s_Table_put : Stmt := clsItem (topS 18) 2
abbrev N_Table_put : List Str := ["self", "row", "kept", "address"]
theorem sc_Table_put : FnScope N_Table_put ["self", "row"] (defScope s_Table_put) := ⟨rfl, rfl, rfl, by decide +kernel, rfl, by decide +kernel, by decide +kernel⟩
abbrev s_Table_row_at : Stmt := clsItem (topS 18) 6
abbrev N_Table_row_at : List Str := ["self", "address"]
theorem sc_Table_row_at : FnScope N_Table_row_at ["self", "address"] (defScope s_Table_row_at) := ⟨rfl, rfl, rfl, by decide +kernel, rfl, by decide +kernel, by decide +kernel⟩
abbrev s__law_put_right : Stmt := topS 28
abbrev N__law_put_right : List Str := ["_law_stream_here", "_law_pool_here", "_law_table", "_law_rows", "_law_slots", "_law_row_here", "_law_handed", "_law_free", "_law_told", "e", "_law_address"]
theorem sc__law_put_right : FnScope N__law_put_right ["_law_stream_here", "_law_pool_here", "_law_table", "_law_rows", "_law_slots"] (defScope s__law_put_right) := ⟨rfl, rfl, rfl, by decide +kernel, rfl, by decide +kernel, by decide +kernel⟩
abbrev s_Table_init : Stmt := clsItem (topS 18) 0
abbrev N_Table_init : List Str := ["self", "shape"]
theorem sc_Table_init : FnScope N_Table_init ["self", "shape"] (defScope s_Table_init) := ⟨rfl, rfl, rfl, by decide +kernel, rfl, by decide +kernel, by decide +kernel⟩
abbrev s_Shape_init : Stmt := clsItem (topS 14) 5
abbrev N_Shape_init : List Str := ["self", "pages", "slots", "chunk", "columns"]
theorem sc_Shape_init : FnScope N_Shape_init ["self", "pages", "slots", "chunk", "columns"] (defScope s_Shape_init) := ⟨rfl, rfl, rfl, by decide +kernel, rfl, by decide +kernel, by decide +kernel⟩
abbrev s_Table_take : Stmt := clsItem (topS 18) 4
abbrev N_Table_take : List Str := ["self", "address"]
theorem sc_Table_take : FnScope N_Table_take ["self", "address"] (defScope s_Table_take) := ⟨rfl, rfl, rfl, by decide +kernel, rfl, by decide +kernel, by decide +kernel⟩
abbrev s_Table_used : Stmt := clsItem (topS 18) 8
abbrev N_Table_used : List Str := ["self"]
theorem sc_Table_used : FnScope N_Table_used ["self"] (defScope s_Table_used) := ⟨rfl, rfl, rfl, by decide +kernel, rfl, by decide +kernel, by decide +kernel⟩
abbrev s_law : Stmt := topS 29
abbrev N_law : List Str := ["_law_script", "_law_stream_here", "_law_sizes_here", "_law_slots", "_law_pool_here", "_law_table", "_law_many", "_law_rows", "_law_fill", "_law_k", "_law_at", "_law_row_here"]
theorem sc_law : FnScope N_law ["_law_script"] (defScope s_law) := ⟨rfl, rfl, rfl, by decide +kernel, rfl, by decide +kernel, by decide +kernel⟩
structure Txt (K : PySem.W.Frag) (mg : Str → Option Value) : Type where
  a_NoPlace_init : Addr
  d_NoPlace_init : FuncData
  F_NoPlace_init : Fun K "__init__" "NoPlace.__init__" s_NoPlace_init a_NoPlace_init d_NoPlace_init
  b_NoPlace_init : Binds K d_NoPlace_init ["self", "place"] []
  a_BadRow_init : Addr
  d_BadRow_init : FuncData
  F_BadRow_init : Fun K "__init__" "BadRow.__init__" s_BadRow_init a_BadRow_init d_BadRow_init
  b_BadRow_init : Binds K d_BadRow_init ["self", "row"] []
  a_SlotTaken_init : Addr
  d_SlotTaken_init : FuncData
  F_SlotTaken_init : Fun K "__init__" "SlotTaken.__init__" s_SlotTaken_init a_SlotTaken_init d_SlotTaken_init
  b_SlotTaken_init : Binds K d_SlotTaken_init ["self", "address"] []
  a_EmptySlot_init : Addr
  d_EmptySlot_init : FuncData
  F_EmptySlot_init : Fun K "__init__" "EmptySlot.__init__" s_EmptySlot_init a_EmptySlot_init d_EmptySlot_init
  b_EmptySlot_init : Binds K d_EmptySlot_init ["self", "address"] []
  a_is_between : Addr
  d_is_between : FuncData
  F_is_between : Fun K "is_between" "is_between" s_is_between a_is_between d_is_between
  b_is_between : Binds K d_is_between ["value", "low", "high"] []
  g_is_between : mg "is_between" = some (.ref a_is_between)
  a_check_extent : Addr
  d_check_extent : FuncData
  F_check_extent : Fun K "check_extent" "check_extent" s_check_extent a_check_extent d_check_extent
  b_check_extent : Binds K d_check_extent ["value", "most"] []
  g_check_extent : mg "check_extent" = some (.ref a_check_extent)
  a_Shape_contains : Addr
  d_Shape_contains : FuncData
  F_Shape_contains : Fun K "__contains__" "Shape.__contains__" s_Shape_contains a_Shape_contains d_Shape_contains
  b_Shape_contains : Binds K d_Shape_contains ["self", "address"] []
  a_check_address : Addr
  d_check_address : FuncData
  F_check_address : Fun K "check_address" "check_address" s_check_address a_check_address d_check_address
  b_check_address : Binds K d_check_address ["address", "shape"] []
  g_check_address : mg "check_address" = some (.ref a_check_address)
  a_check_row : Addr
  d_check_row : FuncData
  F_check_row : Fun K "check_row" "check_row" s_check_row a_check_row d_check_row
  b_check_row : Binds K d_check_row ["row", "columns"] []
  g_check_row : mg "check_row" = some (.ref a_check_row)
  a_stream : Addr
  d_stream : FuncData
  F_stream : Fun K "_law_stream" "_law_stream" s__law_stream a_stream d_stream
  b_stream : Binds K d_stream ["_law_script"] []
  g_stream : mg "_law_stream" = some (.ref a_stream)
  a_draw : Addr
  d_draw : FuncData
  F_draw : Fun K "_law_draw" "_law_draw" s__law_draw a_draw d_draw
  b_draw : Binds K d_draw ["_law_stream_here", "_law_many"] []
  g_draw : mg "_law_draw" = some (.ref a_draw)
  a_number : Addr
  d_number : FuncData
  F_number : Fun K "_law_number" "_law_number" s__law_number a_number d_number
  b_number : Binds K d_number ["_law_stream_here", "_law_most"] []
  g_number : mg "_law_number" = some (.ref a_number)
  a_pool : Addr
  d_pool : FuncData
  F_pool : Fun K "_law_pool" "_law_pool" s__law_pool a_pool d_pool
  b_pool : Binds K d_pool ["_law_stream_here", "_law_wide"] []
  g_pool : mg "_law_pool" = some (.ref a_pool)
  a_row : Addr
  d_row : FuncData
  F_row : Fun K "_law_row" "_law_row" s__law_row a_row d_row
  b_row : Binds K d_row ["_law_stream_here", "_law_pool_here"] []
  g_row : mg "_law_row" = some (.ref a_row)
  a_sizes : Addr
  d_sizes : FuncData
  F_sizes : Fun K "_law_sizes" "_law_sizes" s__law_sizes a_sizes d_sizes
  b_sizes : Binds K d_sizes ["_law_stream_here", "_law_pages", "_law_slots"] []
  g_sizes : mg "_law_sizes" = some (.ref a_sizes)
  a_alike : Addr
  d_alike : FuncData
  F_alike : Fun K "_law_alike" "_law_alike" s__law_alike a_alike d_alike
  b_alike : Binds K d_alike ["_law_told", "_law_due"] []
  g_alike : mg "_law_alike" = some (.ref a_alike)
  a_first_free : Addr
  d_first_free : FuncData
  F_first_free : Fun K "_law_first_free" "_law_first_free" s__law_first_free a_first_free d_first_free
  b_first_free : Binds K d_first_free ["_law_rows"] []
  g_first_free : mg "_law_first_free" = some (.ref a_first_free)
  a_Shape_addresses : Addr
  d_Shape_addresses : FuncData
  F_Shape_addresses : Fun K "addresses" "Shape.addresses" s_Shape_addresses a_Shape_addresses d_Shape_addresses
  b_Shape_addresses : Binds K d_Shape_addresses ["self"] []
  a_Table_put : Addr
  d_Table_put : FuncData
  F_Table_put : Fun K "put" "Table.put" s_Table_put a_Table_put d_Table_put
  b_Table_put : Binds K d_Table_put ["self", "row"] []
  a_Table_row_at : Addr
  d_Table_row_at : FuncData
  F_Table_row_at : Fun K "row_at" "Table.row_at" s_Table_row_at a_Table_row_at d_Table_row_at
  b_Table_row_at : Binds K d_Table_row_at ["self", "address"] []
  a_put_right : Addr
  d_put_right : FuncData
  F_put_right : Fun K "_law_put_right" "_law_put_right" s__law_put_right a_put_right d_put_right
  b_put_right : Binds K d_put_right ["_law_stream_here", "_law_pool_here", "_law_table", "_law_rows", "_law_slots"] []
  g_put_right : mg "_law_put_right" = some (.ref a_put_right)
  a_Table_init : Addr
  d_Table_init : FuncData
  F_Table_init : Fun K "__init__" "Table.__init__" s_Table_init a_Table_init d_Table_init
  b_Table_init : Binds K d_Table_init ["self", "shape"] []
  a_Shape_init : Addr
  d_Shape_init : FuncData
  F_Shape_init : FunD K "__init__" "Shape.__init__" (defArgs s_Shape_init) (defBody s_Shape_init) (defScope s_Shape_init) [] [("chunk", .int (4)), ("columns", .int (2))] a_Shape_init d_Shape_init
  a_Table_take : Addr
  d_Table_take : FuncData
  F_Table_take : Fun K "take" "Table.take" s_Table_take a_Table_take d_Table_take
  b_Table_take : Binds K d_Table_take ["self", "address"] []
  a_Table_used : Addr
  d_Table_used : FuncData
  F_Table_used : Fun K "used" "Table.used" s_Table_used a_Table_used d_Table_used
  b_Table_used : Binds K d_Table_used ["self"] []
  C_PagesError : Addr
  g_PagesError : mg "PagesError" = some (.ref C_PagesError)
  cB_PagesError : PySem.W.subIn K (.ref C_PagesError) (.type "BaseException") = some true
  cT_PagesError : PySem.W.typeIn K (.ref C_PagesError) = some (.type "type")
  kC_PagesError : PySem.W.keepIn K (.ref C_PagesError) = true
  is_PagesError : IsC K C_PagesError
  xf_PagesError : XfC K C_PagesError
  ie_PagesError : L2.ExcC K C_PagesError
  kv_PagesError : PySem.W.kitOne K (.ref C_PagesError) (.type "ValueError") = some true
  xF_PagesError : PySem.W.excIn K C_PagesError [.type "ValueError", .type "Exception", .type "BaseException", .type "object"] "ValueError.__new__" = true
  ga_PagesError : PySem.W.specialIn K (.ref C_PagesError) "__getattribute__" = some (some (.builtin "type.__getattribute__"))
  rd_PagesError : PySem.W.readsIn K C_PagesError (.type "type") = true
  vV_PagesError : PySem.W.findCls K (.ref C_PagesError) (.type "type") "__init__" = some (.val (.builtin "ValueError.__init__"))
  C_BadShape : Addr
  g_BadShape : mg "BadShape" = some (.ref C_BadShape)
  cB_BadShape : PySem.W.subIn K (.ref C_BadShape) (.type "BaseException") = some true
  cT_BadShape : PySem.W.typeIn K (.ref C_BadShape) = some (.type "type")
  kC_BadShape : PySem.W.keepIn K (.ref C_BadShape) = true
  is_BadShape : IsC K C_BadShape
  xf_BadShape : XfC K C_BadShape
  ie_BadShape : L2.ExcC K C_BadShape
  kv_BadShape : PySem.W.kitOne K (.ref C_BadShape) (.type "ValueError") = some true
  xF_BadShape : PySem.W.excIn K C_BadShape [.type "ValueError", .type "Exception", .type "BaseException", .type "object"] "ValueError.__new__" = true
  ga_BadShape : PySem.W.specialIn K (.ref C_BadShape) "__getattribute__" = some (some (.builtin "type.__getattribute__"))
  rd_BadShape : PySem.W.readsIn K C_BadShape (.type "type") = true
  vV_BadShape : PySem.W.findCls K (.ref C_BadShape) (.type "type") "__init__" = some (.val (.builtin "ValueError.__init__"))
  C_TableFull : Addr
  g_TableFull : mg "TableFull" = some (.ref C_TableFull)
  cB_TableFull : PySem.W.subIn K (.ref C_TableFull) (.type "BaseException") = some true
  cT_TableFull : PySem.W.typeIn K (.ref C_TableFull) = some (.type "type")
  kC_TableFull : PySem.W.keepIn K (.ref C_TableFull) = true
  is_TableFull : IsC K C_TableFull
  xf_TableFull : XfC K C_TableFull
  ie_TableFull : L2.ExcC K C_TableFull
  kv_TableFull : PySem.W.kitOne K (.ref C_TableFull) (.type "ValueError") = some true
  xF_TableFull : PySem.W.excIn K C_TableFull [.type "ValueError", .type "Exception", .type "BaseException", .type "object"] "ValueError.__new__" = true
  ga_TableFull : PySem.W.specialIn K (.ref C_TableFull) "__getattribute__" = some (some (.builtin "type.__getattribute__"))
  rd_TableFull : PySem.W.readsIn K C_TableFull (.type "type") = true
  vV_TableFull : PySem.W.findCls K (.ref C_TableFull) (.type "type") "__init__" = some (.val (.builtin "ValueError.__init__"))
  C_NoPlace : Addr
  g_NoPlace : mg "NoPlace" = some (.ref C_NoPlace)
  cB_NoPlace : PySem.W.subIn K (.ref C_NoPlace) (.type "BaseException") = some true
  cT_NoPlace : PySem.W.typeIn K (.ref C_NoPlace) = some (.type "type")
  kC_NoPlace : PySem.W.keepIn K (.ref C_NoPlace) = true
  is_NoPlace : IsC K C_NoPlace
  xf_NoPlace : XfC K C_NoPlace
  oc_NoPlace : OexC K C_NoPlace
  iC_NoPlace : PySem.W.findIn K (.ref C_NoPlace) "__init__" = some (some (.ref a_NoPlace_init))
  tI_NoPlace : PySem.W.typeIn K (.ref a_NoPlace_init) = some (.type "function")
  no_NoPlace : PySem.W.findIn K (.ref C_NoPlace) "place" = some none
  C_BadRow : Addr
  g_BadRow : mg "BadRow" = some (.ref C_BadRow)
  cB_BadRow : PySem.W.subIn K (.ref C_BadRow) (.type "BaseException") = some true
  cT_BadRow : PySem.W.typeIn K (.ref C_BadRow) = some (.type "type")
  kC_BadRow : PySem.W.keepIn K (.ref C_BadRow) = true
  is_BadRow : IsC K C_BadRow
  xf_BadRow : XfC K C_BadRow
  oc_BadRow : OexC K C_BadRow
  iC_BadRow : PySem.W.findIn K (.ref C_BadRow) "__init__" = some (some (.ref a_BadRow_init))
  tI_BadRow : PySem.W.typeIn K (.ref a_BadRow_init) = some (.type "function")
  no_BadRow : PySem.W.findIn K (.ref C_BadRow) "row" = some none
  C_SlotTaken : Addr
  g_SlotTaken : mg "SlotTaken" = some (.ref C_SlotTaken)
  cB_SlotTaken : PySem.W.subIn K (.ref C_SlotTaken) (.type "BaseException") = some true
  cT_SlotTaken : PySem.W.typeIn K (.ref C_SlotTaken) = some (.type "type")
  kC_SlotTaken : PySem.W.keepIn K (.ref C_SlotTaken) = true
  is_SlotTaken : IsC K C_SlotTaken
  xf_SlotTaken : XfC K C_SlotTaken
  oc_SlotTaken : OexC K C_SlotTaken
  iC_SlotTaken : PySem.W.findIn K (.ref C_SlotTaken) "__init__" = some (some (.ref a_SlotTaken_init))
  tI_SlotTaken : PySem.W.typeIn K (.ref a_SlotTaken_init) = some (.type "function")
  no_SlotTaken : PySem.W.findIn K (.ref C_SlotTaken) "address" = some none
  C_EmptySlot : Addr
  g_EmptySlot : mg "EmptySlot" = some (.ref C_EmptySlot)
  cB_EmptySlot : PySem.W.subIn K (.ref C_EmptySlot) (.type "BaseException") = some true
  cT_EmptySlot : PySem.W.typeIn K (.ref C_EmptySlot) = some (.type "type")
  kC_EmptySlot : PySem.W.keepIn K (.ref C_EmptySlot) = true
  is_EmptySlot : IsC K C_EmptySlot
  xf_EmptySlot : XfC K C_EmptySlot
  oc_EmptySlot : OexC K C_EmptySlot
  iC_EmptySlot : PySem.W.findIn K (.ref C_EmptySlot) "__init__" = some (some (.ref a_EmptySlot_init))
  tI_EmptySlot : PySem.W.typeIn K (.ref a_EmptySlot_init) = some (.type "function")
  no_EmptySlot : PySem.W.findIn K (.ref C_EmptySlot) "address" = some none
  kit_PagesError_PagesError : PySem.W.kitOne K (.ref C_PagesError) (.ref C_PagesError) = some true
  te_PagesError_PagesError : PySem.W.exmOne K (.ref C_PagesError) (.ref C_PagesError) = some true
  kit_PagesError_BadShape : PySem.W.kitOne K (.ref C_PagesError) (.ref C_BadShape) = some false
  te_PagesError_BadShape : PySem.W.exmOne K (.ref C_PagesError) (.ref C_BadShape) = some false
  kit_PagesError_TableFull : PySem.W.kitOne K (.ref C_PagesError) (.ref C_TableFull) = some false
  te_PagesError_TableFull : PySem.W.exmOne K (.ref C_PagesError) (.ref C_TableFull) = some false
  kit_PagesError_NoPlace : PySem.W.kitOne K (.ref C_PagesError) (.ref C_NoPlace) = some false
  te_PagesError_NoPlace : PySem.W.exmOne K (.ref C_PagesError) (.ref C_NoPlace) = some false
  kit_PagesError_BadRow : PySem.W.kitOne K (.ref C_PagesError) (.ref C_BadRow) = some false
  te_PagesError_BadRow : PySem.W.exmOne K (.ref C_PagesError) (.ref C_BadRow) = some false
  kit_PagesError_SlotTaken : PySem.W.kitOne K (.ref C_PagesError) (.ref C_SlotTaken) = some false
  te_PagesError_SlotTaken : PySem.W.exmOne K (.ref C_PagesError) (.ref C_SlotTaken) = some false
  kit_PagesError_EmptySlot : PySem.W.kitOne K (.ref C_PagesError) (.ref C_EmptySlot) = some false
  te_PagesError_EmptySlot : PySem.W.exmOne K (.ref C_PagesError) (.ref C_EmptySlot) = some false
  kit_BadShape_PagesError : PySem.W.kitOne K (.ref C_BadShape) (.ref C_PagesError) = some true
  te_BadShape_PagesError : PySem.W.exmOne K (.ref C_BadShape) (.ref C_PagesError) = some true
  kit_BadShape_BadShape : PySem.W.kitOne K (.ref C_BadShape) (.ref C_BadShape) = some true
  te_BadShape_BadShape : PySem.W.exmOne K (.ref C_BadShape) (.ref C_BadShape) = some true
  kit_BadShape_TableFull : PySem.W.kitOne K (.ref C_BadShape) (.ref C_TableFull) = some false
  te_BadShape_TableFull : PySem.W.exmOne K (.ref C_BadShape) (.ref C_TableFull) = some false
  kit_BadShape_NoPlace : PySem.W.kitOne K (.ref C_BadShape) (.ref C_NoPlace) = some false
  te_BadShape_NoPlace : PySem.W.exmOne K (.ref C_BadShape) (.ref C_NoPlace) = some false
  kit_BadShape_BadRow : PySem.W.kitOne K (.ref C_BadShape) (.ref C_BadRow) = some false
  te_BadShape_BadRow : PySem.W.exmOne K (.ref C_BadShape) (.ref C_BadRow) = some false
  kit_BadShape_SlotTaken : PySem.W.kitOne K (.ref C_BadShape) (.ref C_SlotTaken) = some false
  te_BadShape_SlotTaken : PySem.W.exmOne K (.ref C_BadShape) (.ref C_SlotTaken) = some false
  kit_BadShape_EmptySlot : PySem.W.kitOne K (.ref C_BadShape) (.ref C_EmptySlot) = some false
  te_BadShape_EmptySlot : PySem.W.exmOne K (.ref C_BadShape) (.ref C_EmptySlot) = some false
  kit_TableFull_PagesError : PySem.W.kitOne K (.ref C_TableFull) (.ref C_PagesError) = some true
  te_TableFull_PagesError : PySem.W.exmOne K (.ref C_TableFull) (.ref C_PagesError) = some true
  kit_TableFull_BadShape : PySem.W.kitOne K (.ref C_TableFull) (.ref C_BadShape) = some false
  te_TableFull_BadShape : PySem.W.exmOne K (.ref C_TableFull) (.ref C_BadShape) = some false
  kit_TableFull_TableFull : PySem.W.kitOne K (.ref C_TableFull) (.ref C_TableFull) = some true
  te_TableFull_TableFull : PySem.W.exmOne K (.ref C_TableFull) (.ref C_TableFull) = some true
  kit_TableFull_NoPlace : PySem.W.kitOne K (.ref C_TableFull) (.ref C_NoPlace) = some false
  te_TableFull_NoPlace : PySem.W.exmOne K (.ref C_TableFull) (.ref C_NoPlace) = some false
  kit_TableFull_BadRow : PySem.W.kitOne K (.ref C_TableFull) (.ref C_BadRow) = some false
  te_TableFull_BadRow : PySem.W.exmOne K (.ref C_TableFull) (.ref C_BadRow) = some false
  kit_TableFull_SlotTaken : PySem.W.kitOne K (.ref C_TableFull) (.ref C_SlotTaken) = some false
  te_TableFull_SlotTaken : PySem.W.exmOne K (.ref C_TableFull) (.ref C_SlotTaken) = some false
  kit_TableFull_EmptySlot : PySem.W.kitOne K (.ref C_TableFull) (.ref C_EmptySlot) = some false
  te_TableFull_EmptySlot : PySem.W.exmOne K (.ref C_TableFull) (.ref C_EmptySlot) = some false
  kit_NoPlace_PagesError : PySem.W.kitOne K (.ref C_NoPlace) (.ref C_PagesError) = some true
  te_NoPlace_PagesError : PySem.W.exmOne K (.ref C_NoPlace) (.ref C_PagesError) = some true
  kit_NoPlace_BadShape : PySem.W.kitOne K (.ref C_NoPlace) (.ref C_BadShape) = some false
  te_NoPlace_BadShape : PySem.W.exmOne K (.ref C_NoPlace) (.ref C_BadShape) = some false
  kit_NoPlace_TableFull : PySem.W.kitOne K (.ref C_NoPlace) (.ref C_TableFull) = some false
  te_NoPlace_TableFull : PySem.W.exmOne K (.ref C_NoPlace) (.ref C_TableFull) = some false
  kit_NoPlace_NoPlace : PySem.W.kitOne K (.ref C_NoPlace) (.ref C_NoPlace) = some true
  te_NoPlace_NoPlace : PySem.W.exmOne K (.ref C_NoPlace) (.ref C_NoPlace) = some true
  kit_NoPlace_BadRow : PySem.W.kitOne K (.ref C_NoPlace) (.ref C_BadRow) = some false
  te_NoPlace_BadRow : PySem.W.exmOne K (.ref C_NoPlace) (.ref C_BadRow) = some false
  kit_NoPlace_SlotTaken : PySem.W.kitOne K (.ref C_NoPlace) (.ref C_SlotTaken) = some false
  te_NoPlace_SlotTaken : PySem.W.exmOne K (.ref C_NoPlace) (.ref C_SlotTaken) = some false
  kit_NoPlace_EmptySlot : PySem.W.kitOne K (.ref C_NoPlace) (.ref C_EmptySlot) = some false
  te_NoPlace_EmptySlot : PySem.W.exmOne K (.ref C_NoPlace) (.ref C_EmptySlot) = some false
  kit_BadRow_PagesError : PySem.W.kitOne K (.ref C_BadRow) (.ref C_PagesError) = some true
  te_BadRow_PagesError : PySem.W.exmOne K (.ref C_BadRow) (.ref C_PagesError) = some true
  kit_BadRow_BadShape : PySem.W.kitOne K (.ref C_BadRow) (.ref C_BadShape) = some false
  te_BadRow_BadShape : PySem.W.exmOne K (.ref C_BadRow) (.ref C_BadShape) = some false
  kit_BadRow_TableFull : PySem.W.kitOne K (.ref C_BadRow) (.ref C_TableFull) = some false
  te_BadRow_TableFull : PySem.W.exmOne K (.ref C_BadRow) (.ref C_TableFull) = some false
  kit_BadRow_NoPlace : PySem.W.kitOne K (.ref C_BadRow) (.ref C_NoPlace) = some false
  te_BadRow_NoPlace : PySem.W.exmOne K (.ref C_BadRow) (.ref C_NoPlace) = some false
  kit_BadRow_BadRow : PySem.W.kitOne K (.ref C_BadRow) (.ref C_BadRow) = some true
  te_BadRow_BadRow : PySem.W.exmOne K (.ref C_BadRow) (.ref C_BadRow) = some true
  kit_BadRow_SlotTaken : PySem.W.kitOne K (.ref C_BadRow) (.ref C_SlotTaken) = some false
  te_BadRow_SlotTaken : PySem.W.exmOne K (.ref C_BadRow) (.ref C_SlotTaken) = some false
  kit_BadRow_EmptySlot : PySem.W.kitOne K (.ref C_BadRow) (.ref C_EmptySlot) = some false
  te_BadRow_EmptySlot : PySem.W.exmOne K (.ref C_BadRow) (.ref C_EmptySlot) = some false
  kit_SlotTaken_PagesError : PySem.W.kitOne K (.ref C_SlotTaken) (.ref C_PagesError) = some true
  te_SlotTaken_PagesError : PySem.W.exmOne K (.ref C_SlotTaken) (.ref C_PagesError) = some true
  kit_SlotTaken_BadShape : PySem.W.kitOne K (.ref C_SlotTaken) (.ref C_BadShape) = some false
  te_SlotTaken_BadShape : PySem.W.exmOne K (.ref C_SlotTaken) (.ref C_BadShape) = some false
  kit_SlotTaken_TableFull : PySem.W.kitOne K (.ref C_SlotTaken) (.ref C_TableFull) = some false
  te_SlotTaken_TableFull : PySem.W.exmOne K (.ref C_SlotTaken) (.ref C_TableFull) = some false
  kit_SlotTaken_NoPlace : PySem.W.kitOne K (.ref C_SlotTaken) (.ref C_NoPlace) = some false
  te_SlotTaken_NoPlace : PySem.W.exmOne K (.ref C_SlotTaken) (.ref C_NoPlace) = some false
  kit_SlotTaken_BadRow : PySem.W.kitOne K (.ref C_SlotTaken) (.ref C_BadRow) = some false
  te_SlotTaken_BadRow : PySem.W.exmOne K (.ref C_SlotTaken) (.ref C_BadRow) = some false
  kit_SlotTaken_SlotTaken : PySem.W.kitOne K (.ref C_SlotTaken) (.ref C_SlotTaken) = some true
  te_SlotTaken_SlotTaken : PySem.W.exmOne K (.ref C_SlotTaken) (.ref C_SlotTaken) = some true
  kit_SlotTaken_EmptySlot : PySem.W.kitOne K (.ref C_SlotTaken) (.ref C_EmptySlot) = some false
  te_SlotTaken_EmptySlot : PySem.W.exmOne K (.ref C_SlotTaken) (.ref C_EmptySlot) = some false
  kit_EmptySlot_PagesError : PySem.W.kitOne K (.ref C_EmptySlot) (.ref C_PagesError) = some true
  te_EmptySlot_PagesError : PySem.W.exmOne K (.ref C_EmptySlot) (.ref C_PagesError) = some true
  kit_EmptySlot_BadShape : PySem.W.kitOne K (.ref C_EmptySlot) (.ref C_BadShape) = some false
  te_EmptySlot_BadShape : PySem.W.exmOne K (.ref C_EmptySlot) (.ref C_BadShape) = some false
  kit_EmptySlot_TableFull : PySem.W.kitOne K (.ref C_EmptySlot) (.ref C_TableFull) = some false
  te_EmptySlot_TableFull : PySem.W.exmOne K (.ref C_EmptySlot) (.ref C_TableFull) = some false
  kit_EmptySlot_NoPlace : PySem.W.kitOne K (.ref C_EmptySlot) (.ref C_NoPlace) = some false
  te_EmptySlot_NoPlace : PySem.W.exmOne K (.ref C_EmptySlot) (.ref C_NoPlace) = some false
  kit_EmptySlot_BadRow : PySem.W.kitOne K (.ref C_EmptySlot) (.ref C_BadRow) = some false
  te_EmptySlot_BadRow : PySem.W.exmOne K (.ref C_EmptySlot) (.ref C_BadRow) = some false
  kit_EmptySlot_SlotTaken : PySem.W.kitOne K (.ref C_EmptySlot) (.ref C_SlotTaken) = some false
  te_EmptySlot_SlotTaken : PySem.W.exmOne K (.ref C_EmptySlot) (.ref C_SlotTaken) = some false
  kit_EmptySlot_EmptySlot : PySem.W.kitOne K (.ref C_EmptySlot) (.ref C_EmptySlot) = some true
  te_EmptySlot_EmptySlot : PySem.W.exmOne K (.ref C_EmptySlot) (.ref C_EmptySlot) = some true
  C_Shape : Addr
  g_Shape : mg "Shape" = some (.ref C_Shape)
  sC_Shape : SlX.SCls K C_Shape
  kC_Shape : PySem.W.keepIn K (.ref C_Shape) = true
  pS_Shape_chunk : Addr
  sl_Shape_chunk : SlX.Slot1 K C_Shape "chunk" pS_Shape_chunk 0
  pS_Shape_columns : Addr
  sl_Shape_columns : SlX.Slot1 K C_Shape "columns" pS_Shape_columns 1
  pS_Shape_pages : Addr
  sl_Shape_pages : SlX.Slot1 K C_Shape "pages" pS_Shape_pages 2
  pS_Shape_slots : Addr
  sl_Shape_slots : SlX.Slot1 K C_Shape "slots" pS_Shape_slots 3
  mk_Shape : Mk K C_Shape a_Shape_init
  cr_Shape : ClX.CRead K C_Shape (.type "type")
  cu_Shape_MOST_PAGES : Value
  cv_Shape_MOST_PAGES : ClX.CVal K C_Shape (.type "type") "MOST_PAGES" (.int (16)) cu_Shape_MOST_PAGES
  cu_Shape_MOST_SLOTS : Value
  cv_Shape_MOST_SLOTS : ClX.CVal K C_Shape (.type "type") "MOST_SLOTS" (.int (8)) cu_Shape_MOST_SLOTS
  cu_Shape_MOST_CHUNK : Value
  cv_Shape_MOST_CHUNK : ClX.CVal K C_Shape (.type "type") "MOST_CHUNK" (.int (16)) cu_Shape_MOST_CHUNK
  cu_Shape_MOST_COLUMNS : Value
  cv_Shape_MOST_COLUMNS : ClX.CVal K C_Shape (.type "type") "MOST_COLUMNS" (.int (3)) cu_Shape_MOST_COLUMNS
  me_Shape_addresses : Meth K C_Shape "addresses" a_Shape_addresses
  me_Shape_contains : Meth K C_Shape "__contains__" a_Shape_contains
  C_Table : Addr
  g_Table : mg "Table" = some (.ref C_Table)
  sC_Table : SlX.SCls K C_Table
  kC_Table : PySem.W.keepIn K (.ref C_Table) = true
  mk_Table : Mk K C_Table a_Table_init
  hc_Table : Cls K C_Table
  nf_Table_shape : NoAttr K C_Table "shape"
  nf_Table__rows : NoAttr K C_Table "_rows"
  pp_Table_used : Addr
  pa_Table_used : PySem.W.findIn K (.ref C_Table) "used" = some (some (.ref pp_Table_used))
  pg_Table_used : PySem.W.specialIn K (.ref pp_Table_used) "__get__" = some (some (.builtin "property.__get__"))
  pt_Table_used : PySem.W.takesIn K (.ref pp_Table_used) = some true
  pr_Table_used : ∃ rest, PySem.W.recIn K pp_Table_used "property" = some (.ref a_Table_used :: rest)
  me_Table_put : Meth K C_Table "put" a_Table_put
  me_Table_take : Meth K C_Table "take" a_Table_take
  me_Table_row_at : Meth K C_Table "row_at" a_Table_row_at
  t_GREATEST : Tok
  g_GREATEST : mg "GREATEST" = some (.int (1000000000000000000) t_GREATEST)
  z_abs : mg "abs" = none
  z_bool : mg "bool" = none
  z_int : mg "int" = none
  z_isinstance : mg "isinstance" = none
  z_len : mg "len" = none
  z_list : mg "list" = none
  z_range : mg "range" = none
  z_str : mg "str" = none
  z_tuple : mg "tuple" = none
section
variable {K : PySem.W.Frag} {mg : Str → Option Value}
theorem kb_Shape_init_chunk_columns (T : Txt K mg) : ∃ mv : List Value, KBn K T.d_Shape_init ["self", "pages", "slots", "chunk", "columns"] 3 ["chunk", "columns"] (fun us ws => (fun {α : Type} (vs mz zs : List α) => vs ++ (zs ++ mz)) us mv ws) (fun vs zs => (fun {α : Type} (vs mz zs : List α) => vs ++ (zs ++ mz)) vs [] zs) := T.F_Shape_init.kbinds0 3 ["chunk", "columns"] [] (fun {α : Type} (vs mz zs : List α) => vs ++ (zs ++ mz)) (List.cons_ne_nil _ _) (by simp) (fun r1 r2 r3 => r1.append (r3.append r2)) (fun D doc pm an cdv ct us mv ws h1 h2 h3 => match us, h1, mv, h2, ws, h3 with | [_, _, _], _, [], _, [_, _], _ => rfl)
end
section
variable {K : PySem.W.Frag} {mg : Str → Option Value}
def ctb (T : Txt K mg) : CTB := { adr := fun n => match n with | 0 => T.C_Shape | 1 => T.C_Table | _ => 0, slt := fun n => match n with | 0 => true | 1 => false | _ => false, err := fun n => match n with | 0 => T.C_PagesError | 1 => T.C_BadShape | 2 => T.C_TableFull | 3 => T.C_NoPlace | 4 => T.C_BadRow | 5 => T.C_SlotTaken | 6 => T.C_EmptySlot | _ => 0, fld := fun n => match n with | 0 => "" | 1 => "" | 2 => "" | 3 => "place" | 4 => "row" | 5 => "address" | 6 => "address" | _ => "", sls := fun n => match n with | 0 => ["chunk", "columns", "pages", "slots"] | 1 => [] | _ => [], fnc := fun _ => 0 }
theorem Txt.pp0_Table_used (T : Txt K mg) : PropAt K T.C_Table "used" T.a_Table_used := ⟨T.sC_Table.get _, T.sC_Table.ic, _, T.pa_Table_used, T.pg_Table_used, T.pt_Table_used, T.pr_Table_used⟩
theorem Txt.fit_TableFull (T : Txt K mg) : ∀ c r, fitsD [2] 7 c = some r → PySem.W.exmOne K (.ref ((ctb T).err c)) (.ref T.C_TableFull) = some r
  | 0, r, e => by
    cases (show some false = some r from e)
    exact T.te_PagesError_TableFull
  | 1, r, e => by
    cases (show some false = some r from e)
    exact T.te_BadShape_TableFull
  | 2, r, e => by
    cases (show some true = some r from e)
    exact T.te_TableFull_TableFull
  | 3, r, e => by
    cases (show some false = some r from e)
    exact T.te_NoPlace_TableFull
  | 4, r, e => by
    cases (show some false = some r from e)
    exact T.te_BadRow_TableFull
  | 5, r, e => by
    cases (show some false = some r from e)
    exact T.te_SlotTaken_TableFull
  | 6, r, e => by
    cases (show some false = some r from e)
    exact T.te_EmptySlot_TableFull
  | c + 7, r, e => by
    have h : fitsD [2] 7 (c + 7) = none := if_neg (by omega)
    rw [h] at e
    cases e
end
section
variable {P : Program} {w : World} {K : PySem.W.Frag} {mg : Str → Option Value} {base : Heap}
theorem ok_NoPlace_init (T : Txt K mg) : FnOk P w K mg base CX0 1 T.a_NoPlace_init T.d_NoPlace_init ["self", "place"] (spErr T.C_NoPlace "place") := by
  refine T.F_NoPlace_init.ok sc_NoPlace_init (fun vs H Q E h => ?_) (fun cdv A outer s H vs Q E hr h => ⟨_, (pss_cons (ps_expr (pe_owninit (by rfl) T.g_PagesError T.ga_PagesError T.rd_PagesError T.vV_PagesError (pa_cons (pv 0) (pa_cons pe_str pa_nil)))) (pss_one (ps_ost (pv 0) (pv 1)))), ?_⟩)
  · obtain ⟨a, v, rfl, ha, k⟩ := h; rfl
  · obtain ⟨a, v, rfl, ha, k⟩ := h
    exact err_init T.oc_NoPlace T.no_NoPlace ha k
theorem ok_BadRow_init (T : Txt K mg) : FnOk P w K mg base CX0 1 T.a_BadRow_init T.d_BadRow_init ["self", "row"] (spErr T.C_BadRow "row") := by
  refine T.F_BadRow_init.ok sc_BadRow_init (fun vs H Q E h => ?_) (fun cdv A outer s H vs Q E hr h => ⟨_, (pss_cons (ps_expr (pe_owninit (by rfl) T.g_PagesError T.ga_PagesError T.rd_PagesError T.vV_PagesError (pa_cons (pv 0) (pa_cons pe_str pa_nil)))) (pss_one (ps_ost (pv 0) (pv 1)))), ?_⟩)
  · obtain ⟨a, v, rfl, ha, k⟩ := h; rfl
  · obtain ⟨a, v, rfl, ha, k⟩ := h
    exact err_init T.oc_BadRow T.no_BadRow ha k
theorem ok_SlotTaken_init (T : Txt K mg) : FnOk P w K mg base CX0 1 T.a_SlotTaken_init T.d_SlotTaken_init ["self", "address"] (spErr T.C_SlotTaken "address") := by
  refine T.F_SlotTaken_init.ok sc_SlotTaken_init (fun vs H Q E h => ?_) (fun cdv A outer s H vs Q E hr h => ⟨_, (pss_cons (ps_expr (pe_owninit (by rfl) T.g_PagesError T.ga_PagesError T.rd_PagesError T.vV_PagesError (pa_cons (pv 0) (pa_cons pe_str pa_nil)))) (pss_one (ps_ost (pv 0) (pv 1)))), ?_⟩)
  · obtain ⟨a, v, rfl, ha, k⟩ := h; rfl
  · obtain ⟨a, v, rfl, ha, k⟩ := h
    exact err_init T.oc_SlotTaken T.no_SlotTaken ha k
theorem ok_EmptySlot_init (T : Txt K mg) : FnOk P w K mg base CX0 1 T.a_EmptySlot_init T.d_EmptySlot_init ["self", "address"] (spErr T.C_EmptySlot "address") := by
  refine T.F_EmptySlot_init.ok sc_EmptySlot_init (fun vs H Q E h => ?_) (fun cdv A outer s H vs Q E hr h => ⟨_, (pss_cons (ps_expr (pe_owninit (by rfl) T.g_PagesError T.ga_PagesError T.rd_PagesError T.vV_PagesError (pa_cons (pv 0) (pa_cons pe_str pa_nil)))) (pss_one (ps_ost (pv 0) (pv 1)))), ?_⟩)
  · obtain ⟨a, v, rfl, ha, k⟩ := h; rfl
  · obtain ⟨a, v, rfl, ha, k⟩ := h
    exact err_init T.oc_EmptySlot T.no_EmptySlot ha k
theorem ok_is_between (T : Txt K mg) : FnOk P w K mg base CX0 1 T.a_is_between T.d_is_between ["value", "low", "high"] (SpM K (ctb T) [] m_is_between) := by
  refine T.F_is_between.ok sc_is_between (fun vs H Q E h => SpM.len (np := 3) (n := 3) h) (fun cdv A outer s H vs Q E hr h => ⟨_, (pss_cons (ps_if (PW.pt (pw_or (pt_val (pe_callB (cr_isi (K := K) rfl) (by rfl) T.z_isinstance (by decide +kernel) (pa_cons (pv 0) (pa_cons (pe_bltn (v := .ty "bool") (by rfl) T.z_bool (by decide +kernel) rfl) pa_nil)))) (pw_or1 (pt_not (pt_val (pe_callB (cr_isi (K := K) rfl) (by rfl) T.z_isinstance (by decide +kernel) (pa_cons (pv 0) (pa_cons (pe_bltn (v := .ty "int") (by rfl) T.z_int (by decide +kernel) rfl) pa_nil))))))))
      (pss_one (ps_ret pe_bl))
      pss_nil)
      (pss_one (ps_ret (pe_chain op_le op_le (pv 1) (pv 0) (pv 2))))), ?_⟩)
  exact sim_fn (ct := ctb T) (ms := []) (np := 3) (N := N_is_between)
      (sim_seq (sim_ifS (sim_or (sim_B (sim_isi (T := .bool) sim_var)) (sim_not (sim_B (sim_isi (T := .int) sim_var))))
      (sim_ret ((sim_c fun _ => .bl _)).toE)
      sim_next)
      (sim_ret ((sim_chain so_le so_le sim_var sim_var sim_var)).toE))
      (by decide) (by decide) h
theorem ok_check_extent (T : Txt K mg) : FnOk P w K mg base (L2.CX P w) 2 T.a_check_extent T.d_check_extent ["value", "most"] (SpM K (ctb T) [] m_check_extent) := by
  refine T.F_check_extent.okX sc_check_extent (fun vs H Q E h => SpM.len (np := 2) (n := 2) h) (fun cdv A outer s H vs Q E hr h => ⟨_, (pss_one (ps_if (pt_not (pt_tru (K := K) rfl (pe_call (ok_is_between T) (hr.mono (by decide)) (by rfl) T.g_is_between T.F_is_between.kp T.b_is_between .nil pass0 (pa_cons (pv 0) (pa_cons pe_int (pa_cons (pv 1) pa_nil))))))
      (pss_one (ps_raise rfl (takes_of rfl rfl rfl rfl) (pmk_own PySem.F.excBase_ValueError T.xF_BadShape T.g_BadShape T.kC_BadShape (raises_own T.cB_BadShape T.cT_BadShape) (by rfl))))
      pss_nil)), ?_⟩)
  exact sim_fn (ct := ctb T) (ms := []) (np := 2) (N := N_check_extent)
      (sim_ifS (sim_not (sim_tru ((sim_call0 (sim_bcons sim_var (sim_bcons (sim_c fun _ => .int _) (sim_bcons sim_var sim_bnil))))).toF))
      (sim_raise0 (c := 1) rfl)
      sim_next)
      (by decide) (by decide) h
theorem ok_Shape_contains (T : Txt K mg) : FnOk P w K mg base CX0 2 T.a_Shape_contains T.d_Shape_contains ["self", "address"] (SpM K (ctb T) [] m_Shape_contains) := by
  refine T.F_Shape_contains.ok sc_Shape_contains (fun vs H Q E h => SpM.len (np := 2) (n := 4) h) (fun cdv A outer s H vs Q E hr h => ⟨_, (pss_cons (ps_if (PW.pt (pw_or (pt_not (pt_val (pe_callB (cr_isi (K := K) rfl) (by rfl) T.z_isinstance (by decide +kernel) (pa_cons (pv 1) (pa_cons (pe_bltn (v := .ty "tuple") (by rfl) T.z_tuple (by decide +kernel) rfl) pa_nil))))) (pw_or1 (pt_cmpR (op_neA (K := K) rfl hr.units) (pe_callB (cr_len (K := K) rfl) (by rfl) T.z_len PySem.boot_len (pa_cons (pv 1) pa_nil)) pe_int (nomark _)))))
      (pss_one (ps_ret pe_bl))
      pss_nil)
      (pss_cons (ps_asg (pv 1) (pg_tupA (K := K) (n := 2) rfl rfl (pgs_cons (pg_name (i := 2) sc_Shape_contains.nd rfl (.inl rfl)) (pgs_cons (pg_name (i := 3) sc_Shape_contains.nd rfl (.inl rfl)) pgs_nil))))
      (pss_one (ps_ret (pe_and (pe_call (ok_is_between T) (hr.mono (by decide)) (by rfl) T.g_is_between T.F_is_between.kp T.b_is_between .nil pass0 (pa_cons (pv 2) (pa_cons pe_int (pa_cons (pe_op op_sub (pe_slK (K := K) rfl (pv 0)) pe_int) pa_nil)))) (pe_one (pe_call (ok_is_between T) (hr.mono (by decide)) (by rfl) T.g_is_between T.F_is_between.kp T.b_is_between .nil pass0 (pa_cons (pv 3) (pa_cons pe_int (pa_cons (pe_op op_sub (pe_slK (K := K) rfl (pv 0)) pe_int) pa_nil)))))))))), ?_⟩)
  exact sim_fn (ct := ctb T) (ms := []) (np := 2) (N := N_Shape_contains)
      (sim_seq (sim_ifS (sim_or (sim_not (sim_B (sim_isi (T := .tuple) sim_var))) (sim_test (sim_op so_neA sim_lenV (sim_c fun _ => .int _))))
      (sim_ret ((sim_c fun _ => .bl _)).toE)
      sim_next)
      (sim_seq (sim_to sim_var (sim_gtup (sim_gcons (sim_name (by decide)) (sim_gcons (sim_name (by decide)) sim_gnil))))
      (sim_ret ((sim_andV ((sim_call0 (sim_bcons sim_var (sim_bcons (sim_c fun _ => .int _) (sim_bcons (sim_op so_sub (sim_fldS (c := 0) rfl T.sC_Shape T.sl_Shape_pages sim_var) (sim_c fun _ => .int _)) sim_bnil))))).toF ((sim_call0 (sim_bcons sim_var (sim_bcons (sim_c fun _ => .int _) (sim_bcons (sim_op so_sub (sim_fldS (c := 0) rfl T.sC_Shape T.sl_Shape_slots sim_var) (sim_c fun _ => .int _)) sim_bnil))))).toF)).toE)))
      (by decide) (by decide) h
theorem ok_check_address (T : Txt K mg) : FnOk P w K mg base (L2.CX P w) 3 T.a_check_address T.d_check_address ["address", "shape"] (SpM K (ctb T) [] m_check_address) := by
  refine T.F_check_address.okX sc_check_address (fun vs H Q E h => SpM.len (np := 2) (n := 2) h) (fun cdv A outer s H vs Q E hr h => ⟨_, (pss_one (ps_if (pt_inX true rfl (pv 0) (pv 1) T.me_Shape_contains (fnr_of (ok_Shape_contains T) T.b_Shape_contains) (hr.mono (by decide)) pass0At (by rfl))
      (pss_one (ps_raise rfl (takes_of rfl rfl rfl rfl) (pmk_oex T.oc_NoPlace T.iC_NoPlace T.tI_NoPlace (ok_NoPlace_init T) (hr.mono (by decide)) T.b_NoPlace_init .nil pass0 (by rfl) T.g_NoPlace (pa_cons (pv 0) pa_nil))))
      pss_nil)), ?_⟩)
  exact sim_fn (ct := ctb T) (ms := []) (np := 2) (N := N_check_address)
      (sim_ifS (sim_test (sim_inX0 (c := 0) (neg := true) sim_var sim_var))
      (sim_raise1 (c := 3) rfl rfl (sim_cons sim_var sim_nil))
      sim_next)
      (by decide) (by decide) h
theorem ok_check_row (T : Txt K mg) : FnOk P w K mg base (L2.CX P w) 3 T.a_check_row T.d_check_row ["row", "columns"] (SpM K (ctb T) [0] m_check_row) := by
  refine T.F_check_row.okX sc_check_row (fun vs H Q E h => SpM.len (np := 2) (n := 3) h) (fun cdv A outer s H vs Q E hr h => ⟨_, (pss_cons (ps_if (PW.pt (pw_or (pt_not (pt_val (pe_callB (cr_isi2 (K := K) rfl) (by rfl) T.z_isinstance (by decide +kernel) (pa_cons (pv 0) (pa_cons (pe_tup (pa_cons (pe_bltn (v := .ty "list") (by rfl) T.z_list (by decide +kernel) rfl) (pa_cons (pe_bltn (v := .ty "tuple") (by rfl) T.z_tuple (by decide +kernel) rfl) pa_nil))) pa_nil))))) (pw_or1 (pt_cmpR (op_neA (K := K) rfl hr.units) (pe_callB (cr_len (K := K) rfl) (by rfl) T.z_len PySem.boot_len (pa_cons (pv 0) pa_nil)) (pv 1) (nomark _)))))
      (pss_one (ps_raise rfl (takes_of rfl rfl rfl rfl) (pmk_oex T.oc_BadRow T.iC_BadRow T.tI_BadRow (ok_BadRow_init T) (hr.mono (by decide)) T.b_BadRow_init .nil pass0 (by rfl) T.g_BadRow (pa_cons (pv 0) pa_nil))))
      pss_nil)
      (pss_cons (ps_for (passes_of rfl) rfl (pi_seq (K := K) rfl (pv 0)) (pg_name (i := 2) sc_check_row.nd rfl (.inl rfl))
      (pss_one (ps_if (PW.pt (pw_and (pt_cmpR op_notA (pv 2) pe_non (nomark _)) (pw_and1 (pt_not (pt_tru (K := K) rfl (pe_call (ok_is_between T) (hr.mono (by decide)) (by rfl) T.g_is_between T.F_is_between.kp T.b_is_between .nil pass0 (pa_cons (pv 2) (pa_cons (pe_un un_neg (pe_glob (v := .int (1000000000000000000)) rfl T.g_GREATEST ⟨_, rfl⟩)) (pa_cons (pe_glob (v := .int (1000000000000000000)) rfl T.g_GREATEST ⟨_, rfl⟩) pa_nil)))))))))
      (pss_one (ps_raise rfl (takes_of rfl rfl rfl rfl) (pmk_oex T.oc_BadRow T.iC_BadRow T.tI_BadRow (ok_BadRow_init T) (hr.mono (by decide)) T.b_BadRow_init .nil pass0 (by rfl) T.g_BadRow (pa_cons (pv 0) pa_nil))))
      pss_nil)))
      (pss_one (ps_ret (pe_callTy (cr_tuple (K := K) rfl) (by rfl) T.z_tuple (by decide +kernel) (pa_cons (pv 0) pa_nil)))))), ?_⟩)
  exact sim_fn (ct := ctb T) (ms := [0]) (np := 2) (N := N_check_row)
      (sim_seq (sim_ifS (sim_or (sim_not (sim_B sim_isi2V)) (sim_test (sim_op so_neA sim_lenV sim_var)))
      (sim_raise1 (c := 4) rfl rfl (sim_cons sim_var sim_nil))
      sim_next)
      (sim_seq (sim_forV (by decide) (sim_name (by decide))
      (sim_ifS (sim_and (sim_test (sim_op so_notA sim_var (sim_c fun _ => .non))) (sim_not (sim_tru ((sim_call0 (sim_bcons sim_var (sim_bcons (sim_un so_neg (sim_c fun R => .int _)) (sim_bcons (sim_c fun R => .int _) sim_bnil))))).toF)))
      (sim_raise1 (c := 4) rfl rfl (sim_cons sim_var sim_nil))
      sim_next))
      (sim_ret (sim_tupV).toE)))
      (by decide) (by decide) h
theorem ok_stream (T : Txt K mg) : FnOk P w K mg base CX0 1 T.a_stream T.d_stream ["_law_script"] (SpM K (ctb T) [] m_stream) := by
  refine T.F_stream.ok sc__law_stream (fun vs H Q E h => SpM.len (np := 1) (n := 1) h) (fun cdv A outer s H vs Q E hr h => ⟨_, (pss_one (ps_ret (pe_lst (pa_cons (pe_callTy (cr_list (K := K) rfl) (by rfl) T.z_list (by decide +kernel) (pa_cons (pv 0) pa_nil)) (pa_cons pe_int (pa_cons pe_int (pa_cons pe_int pa_nil))))))), ?_⟩)
  exact sim_fn (ct := ctb T) (ms := []) (np := 1) (N := N__law_stream)
      (sim_ret (sim_lst (sim_cons ((sim_cbL so_list (sim_cons sim_var sim_nil))).toF (sim_cons (sim_c fun _ => .int _) (sim_cons (sim_c fun _ => .int _) (sim_cons (sim_c fun _ => .int _) sim_nil))))))
      (by decide) (by decide) h
theorem ok_draw (T : Txt K mg) : FnOk P w K mg base CX0 1 T.a_draw T.d_draw ["_law_stream_here", "_law_many"] (SpM K (ctb T) [0] m_draw) := by
  refine T.F_draw.ok sc__law_draw (fun vs H Q E h => SpM.len (np := 2) (n := 5) h) (fun cdv A outer s H vs Q E hr h => ⟨_, (pss_cons (ps_if (PW.pt (pw_and (PW.pt (pw_or (pt_cmpR (op_eqA (K := K) rfl hr.units) (pe_ix (ix_A (K := K) rfl) (pv 0) pe_int (fun _ _ => rfl)) pe_int (nomark _)) (pw_or1 (pt_cmpR (op_eqA (K := K) rfl hr.units) (pe_ix (ix_A (K := K) rfl) (pv 0) pe_int (fun _ _ => rfl)) pe_int (nomark _))))) (pw_and1 (pt_cmpR op_lt (pe_ix (ix_A (K := K) rfl) (pv 0) pe_int (fun _ _ => rfl)) (pe_callB (cr_len (K := K) rfl) (by rfl) T.z_len PySem.boot_len (pa_cons (pe_ix (ix_A (K := K) rfl) (pv 0) pe_int (fun _ _ => rfl)) pa_nil)) (nomark _)))))
      (pss_cons (ps_set (i := 2) sc__law_draw.nd rfl (.inl rfl) (pe_ix (ix_A (K := K) rfl) (pv 0) pe_int (fun _ _ => rfl)))
      (pss_cons (ps_set (i := 3) sc__law_draw.nd rfl (.inl rfl) (pe_ix (ix_A (K := K) rfl) (pe_ix (ix_A (K := K) rfl) (pv 0) pe_int (fun _ _ => rfl)) (pv 2) (fun _ _ => rfl)))
      (pss_cons (ps_set (i := 4) sc__law_draw.nd rfl (.inl rfl) (pe_op (op_addA (K := K) rfl) (pe_op (op_mulA (K := K) rfl) pe_int (pe_callB call_abs (by rfl) T.z_abs (by decide +kernel) (pa_cons (pv 3) pa_nil))) (pe_callTy call_int1 (by rfl) T.z_int (by decide +kernel) (pa_cons (pe_cmpR op_lt (pv 3) pe_int (nomark _)) pa_nil))))
      (pss_cons (ps_if (pt_cmpR op_lt (pv 4) (pe_op (op_mulA (K := K) rfl) pe_int (pe_op op_pow pe_int pe_int)) (nomark _))
      (pss_cons (ps_set (i := 4) sc__law_draw.nd rfl (.inl rfl) (pe_op op_mod (pe_callTy call_int1 (by rfl) T.z_int (by decide +kernel) (pa_cons (pe_op (op_addA (K := K) rfl) (pe_op (op_mulA (K := K) rfl) (pv 4) pe_int) (pe_op (op_mulA (K := K) rfl) (pe_op (op_addA (K := K) rfl) (pe_op (op_mulA (K := K) rfl) (pv 2) (pv 2)) pe_int) pe_int)) pa_nil)) pe_int))
      (pss_one (ps_set (i := 4) sc__law_draw.nd rfl (.inl rfl) (pe_op op_mod (pe_callTy call_int1 (by rfl) T.z_int (by decide +kernel) (pa_cons (pe_op (op_addA (K := K) rfl) (pe_op (op_addA (K := K) rfl) (pe_op (op_mulA (K := K) rfl) (pe_op (op_mulA (K := K) rfl) (pv 4) (pv 4)) pe_int) (pe_op (op_mulA (K := K) rfl) (pv 4) pe_int)) pe_int) pa_nil)) pe_int))))
      pss_nil)
      (pss_cons (ps_asg (pe_op (op_addA (K := K) rfl) (pv 2) pe_int) (pg_sub (pv 0) pe_int set_list))
      (pss_cons (ps_asg (pv 4) (pg_sub (pv 0) pe_int set_list))
      (pss_one (ps_asg pe_int (pg_sub (pv 0) pe_int set_list)))))))))
      pss_nil)
      (pss_cons (ps_if (pt_cmpR (op_eqA (K := K) rfl hr.units) (pe_ix (ix_A (K := K) rfl) (pv 0) pe_int (fun _ _ => rfl)) pe_int (nomark _))
      (pss_one (ps_ret pe_int))
      pss_nil)
      (pss_cons (ps_set (i := 4) sc__law_draw.nd rfl (.inl rfl) (pe_ix (ix_A (K := K) rfl) (pv 0) pe_int (fun _ _ => rfl)))
      (pss_cons (ps_asg (pe_op op_fdivW (pv 4) (pv 1)) (pg_sub (pv 0) pe_int set_list))
      (pss_cons (ps_asg (pe_op op_sub (pe_ix (ix_A (K := K) rfl) (pv 0) pe_int (fun _ _ => rfl)) pe_int) (pg_sub (pv 0) pe_int set_list))
      (pss_one (ps_ret (pe_op op_mod (pe_callTy call_int1 (by rfl) T.z_int (by decide +kernel) (pa_cons (pv 4) pa_nil)) (pv 1))))))))), ?_⟩)
  exact sim_fn (ct := ctb T) (ms := [0]) (np := 2) (N := N__law_draw)
      (sim_seq (sim_ifS (sim_and (sim_or (sim_test (sim_op so_eqA (sim_ixAV (sim_c fun _ => .int _)) (sim_c fun _ => .int _))) (sim_test (sim_op so_eqA (sim_ixAV (sim_c fun _ => .int _)) (sim_c fun _ => .int _)))) (sim_test (sim_op so_lt (sim_ixAV (sim_c fun _ => .int _)) (sim_cb so_len (sim_cons (sim_ixAV (sim_c fun _ => .int _)) sim_nil)))))
      (sim_seq (sim_set ((sim_ixAV (sim_c fun _ => .int _))).toE (by decide))
      (sim_seq (sim_set ((sim_op so_ixA (sim_ixAV (sim_c fun _ => .int _)) sim_var)).toE (by decide))
      (sim_seq (sim_set (sim_opE so_addA ((sim_opE so_mulA (sim_c fun _ => .int _) (sim_cb so_abs (sim_cons sim_var sim_nil)))).toF (sim_cb so_int (sim_cons (sim_op so_lt sim_var (sim_c fun _ => .int _)) sim_nil))) (by decide))
      (sim_seq (sim_ifS (sim_test (sim_op so_lt sim_var ((sim_opE so_mulA (sim_c fun _ => .int _) (sim_op so_pow (sim_c fun _ => .int _) (sim_c fun _ => .int _)))).toF))
      (sim_seq (sim_set ((sim_op so_mod (sim_cb so_int (sim_cons ((sim_opE so_addA ((sim_opE so_mulA sim_var (sim_c fun _ => .int _))).toF ((sim_opE so_mulA ((sim_opE so_addA ((sim_opE so_mulA sim_var sim_var)).toF (sim_c fun _ => .int _))).toF (sim_c fun _ => .int _))).toF)).toF sim_nil)) (sim_c fun _ => .int _))).toE (by decide))
      (sim_set ((sim_op so_mod (sim_cb so_int (sim_cons ((sim_opE so_addA ((sim_opE so_addA ((sim_opE so_mulA ((sim_opE so_mulA sim_var sim_var)).toF (sim_c fun _ => .int _))).toF ((sim_opE so_mulA sim_var (sim_c fun _ => .int _))).toF)).toF (sim_c fun _ => .int _))).toF sim_nil)) (sim_c fun _ => .int _))).toE (by decide)))
      sim_next)
      (sim_seq (sim_setIx ((sim_opE so_addA sim_var (sim_c fun _ => .int _))).toF (sim_c fun _ => .int _))
      (sim_seq (sim_setIx sim_var (sim_c fun _ => .int _))
      (sim_setIx (sim_c fun _ => .int _) (sim_c fun _ => .int _))))))))
      sim_next)
      (sim_seq (sim_ifS (sim_test (sim_op so_eqA (sim_ixAV (sim_c fun _ => .int _)) (sim_c fun _ => .int _)))
      (sim_ret ((sim_c fun _ => .int _)).toE)
      sim_next)
      (sim_seq (sim_set ((sim_ixAV (sim_c fun _ => .int _))).toE (by decide))
      (sim_seq (sim_setIx (sim_op so_div sim_var sim_var) (sim_c fun _ => .int _))
      (sim_seq (sim_setIx (sim_op so_sub (sim_ixAV (sim_c fun _ => .int _)) (sim_c fun _ => .int _)) (sim_c fun _ => .int _))
      (sim_ret ((sim_op so_mod (sim_cb so_int (sim_cons sim_var sim_nil)) sim_var)).toE))))))
      (by decide) (by decide) h
theorem ok_number (T : Txt K mg) : FnOk P w K mg base CX0 2 T.a_number T.d_number ["_law_stream_here", "_law_most"] (SpM K (ctb T) [0] m_number) := by
  refine T.F_number.ok sc__law_number (fun vs H Q E h => SpM.len (np := 2) (n := 3) h) (fun cdv A outer s H vs Q E hr h => ⟨_, (pss_cons (ps_set (i := 2) sc__law_number.nd rfl (.inl rfl) (pe_call (ok_draw T) (hr.mono (by decide)) (by rfl) T.g_draw T.F_draw.kp T.b_draw .nil pass0 (pa_cons (pv 0) (pa_cons pe_int pa_nil))))
      (pss_cons (ps_if (pt_cmpR (op_eqA (K := K) rfl hr.units) (pv 2) pe_int (nomark _))
      (pss_one (ps_ret (pe_op op_sub (pe_call (ok_draw T) (hr.mono (by decide)) (by rfl) T.g_draw T.F_draw.kp T.b_draw .nil pass0 (pa_cons (pv 0) (pa_cons (pe_op (op_addA (K := K) rfl) (pe_op (op_mulA (K := K) rfl) pe_int (pv 1)) pe_int) pa_nil))) (pv 1))))
      pss_nil)
      (pss_cons (ps_if (pt_cmpR (op_eqA (K := K) rfl hr.units) (pv 2) pe_int (nomark _))
      (pss_one (ps_ret (pe_op (op_mulA (K := K) rfl) (pe_op op_sub (pv 1) (pe_call (ok_draw T) (hr.mono (by decide)) (by rfl) T.g_draw T.F_draw.kp T.b_draw .nil pass0 (pa_cons (pv 0) (pa_cons pe_int pa_nil)))) (pe_op op_sub pe_int (pe_op (op_mulA (K := K) rfl) pe_int (pe_call (ok_draw T) (hr.mono (by decide)) (by rfl) T.g_draw T.F_draw.kp T.b_draw .nil pass0 (pa_cons (pv 0) (pa_cons pe_int pa_nil))))))))
      pss_nil)
      (pss_one (ps_ret (pe_op op_sub (pe_call (ok_draw T) (hr.mono (by decide)) (by rfl) T.g_draw T.F_draw.kp T.b_draw .nil pass0 (pa_cons (pv 0) (pa_cons pe_int pa_nil))) pe_int)))))), ?_⟩)
  exact sim_fn (ct := ctb T) (ms := [0]) (np := 2) (N := N__law_number)
      (sim_seq (sim_set (sim_call0 (sim_bslot (sim_bcons (sim_c fun _ => .int _) sim_bnil))) (by decide))
      (sim_seq (sim_ifS (sim_test (sim_op so_eqA sim_var (sim_c fun _ => .int _)))
      (sim_ret ((sim_op so_sub ((sim_call0 (sim_bslot (sim_bcons ((sim_opE so_addA ((sim_opE so_mulA (sim_c fun _ => .int _) sim_var)).toF (sim_c fun _ => .int _))).toF sim_bnil)))).toF sim_var)).toE)
      sim_next)
      (sim_seq (sim_ifS (sim_test (sim_op so_eqA sim_var (sim_c fun _ => .int _)))
      (sim_ret (sim_opE so_mulA (sim_op so_sub sim_var ((sim_call0 (sim_bslot (sim_bcons (sim_c fun _ => .int _) sim_bnil)))).toF) (sim_op so_sub (sim_c fun _ => .int _) ((sim_opE so_mulA (sim_c fun _ => .int _) ((sim_call0 (sim_bslot (sim_bcons (sim_c fun _ => .int _) sim_bnil)))).toF)).toF)))
      sim_next)
      (sim_ret ((sim_op so_sub ((sim_call0 (sim_bslot (sim_bcons (sim_c fun _ => .int _) sim_bnil)))).toF (sim_c fun _ => .int _))).toE))))
      (by decide) (by decide) h
theorem ok_pool (T : Txt K mg) : FnOk P w K mg base CX0 3 T.a_pool T.d_pool ["_law_stream_here", "_law_wide"] (SpM K (ctb T) [0] m_pool) := by
  refine T.F_pool.ok sc__law_pool (fun vs H Q E h => SpM.len (np := 2) (n := 6) h) (fun cdv A outer s H vs Q E hr h => ⟨_, (pss_cons (ps_set (i := 2) sc__law_pool.nd rfl (.inl rfl) (pe_lst pa_nil))
      (pss_cons (ps_for PassesOwn.never rfl (pi_range1 (by rfl) T.z_range (pa_cons (pv 1) pa_nil)) (pg_name (i := 3) sc__law_pool.nd rfl (.inl rfl))
      (pss_cons (ps_set (i := 4) sc__law_pool.nd rfl (.inl rfl) (pe_lst (pa_cons (pe_call (ok_number T) (hr.mono (by decide)) (by rfl) T.g_number T.F_number.kp T.b_number .nil pass0 (pa_cons (pv 0) (pa_cons (pe_op op_sub (pe_op op_pow pe_int pe_int) pe_int) pa_nil))) pa_nil)))
      (pss_cons (ps_for PassesOwn.never rfl (pi_range1 (by rfl) T.z_range (pa_cons (pe_call (ok_draw T) (hr.mono (by decide)) (by rfl) T.g_draw T.F_draw.kp T.b_draw .nil pass0 (pa_cons (pv 0) (pa_cons (pe_ix (ix_A (K := K) rfl) (pe_lst (pa_cons pe_int (pa_cons pe_int (pa_cons pe_int pa_nil)))) (pe_op op_sub (pv 1) pe_int) (fun _ _ => rfl)) pa_nil))) pa_nil)) (pg_name (i := 5) sc__law_pool.nd rfl (.inl rfl))
      (pss_one (ps_if (PW.pt (pw_and (pt_cmpR op_lt (pe_ix (ix_A (K := K) rfl) (pv 4) (pv 5) (fun _ _ => rfl)) (pe_op op_sub (pe_op op_pow pe_int pe_int) pe_int) (nomark _)) (pw_and1 (pt_cmpR (op_eqA (K := K) rfl hr.units) (pe_call (ok_draw T) (hr.mono (by decide)) (by rfl) T.g_draw T.F_draw.kp T.b_draw .nil pass0 (pa_cons (pv 0) (pa_cons pe_int pa_nil))) pe_int (nomark _)))))
      (pss_one (ps_expr (pe_bmA (f := fun K => tBM K "list" rAppend (tVar 4) _) rfl (pe_bm PySem.F.plainAttrs_list PySem.F.slot_list_append PySem.F.type_list_append mt_append (pv 4) (pa_cons (pe_op (op_addA (K := K) rfl) (pe_ix (ix_A (K := K) rfl) (pv 4) (pv 5) (fun _ _ => rfl)) (pe_call (ok_draw T) (hr.mono (by decide)) (by rfl) T.g_draw T.F_draw.kp T.b_draw .nil pass0 (pa_cons (pv 0) (pa_cons pe_int pa_nil)))) pa_nil)))))
      (pss_one (ps_expr (pe_bmA (f := fun K => tBM K "list" rAppend (tVar 4) _) rfl (pe_bm PySem.F.plainAttrs_list PySem.F.slot_list_append PySem.F.type_list_append mt_append (pv 4) (pa_cons (pe_call (ok_number T) (hr.mono (by decide)) (by rfl) T.g_number T.F_number.kp T.b_number .nil pass0 (pa_cons (pv 0) (pa_cons (pe_op op_sub (pe_op op_pow pe_int pe_int) pe_int) pa_nil))) pa_nil))))))))
      (pss_one (ps_expr (pe_bmA (f := fun K => tBM K "list" rAppend (tVar 2) _) rfl (pe_bm PySem.F.plainAttrs_list PySem.F.slot_list_append PySem.F.type_list_append mt_append (pv 2) (pa_cons (pv 4) pa_nil))))))))
      (pss_one (ps_ret (pv 2))))), ?_⟩)
  exact sim_fn (ct := ctb T) (ms := [0]) (np := 2) (N := N__law_pool)
      (sim_seq (sim_set (sim_lst sim_nil) (by decide))
      (sim_seq (sim_for (sim_rg1 (sim_cons sim_var sim_nil)) (sim_name (by decide))
      (sim_seq (sim_set (sim_lst (sim_cons ((sim_call0 (sim_bslot (sim_bcons (sim_op so_sub (sim_op so_pow (sim_c fun _ => .int _) (sim_c fun _ => .int _)) (sim_c fun _ => .int _)) sim_bnil)))).toF sim_nil)) (by decide))
      (sim_seq (sim_for (sim_rg1 (sim_cons ((sim_call0 (sim_bslot (sim_bcons (sim_op so_ixA ((sim_lst (sim_cons (sim_c fun _ => .int _) (sim_cons (sim_c fun _ => .int _) (sim_cons (sim_c fun _ => .int _) sim_nil))))).toF (sim_op so_sub sim_var (sim_c fun _ => .int _))) sim_bnil)))).toF sim_nil)) (sim_name (by decide))
      (sim_ifS (sim_and (sim_test (sim_op so_lt (sim_ixAV sim_var) (sim_op so_sub (sim_op so_pow (sim_c fun _ => .int _) (sim_c fun _ => .int _)) (sim_c fun _ => .int _)))) (sim_test (sim_op so_eqA ((sim_call0 (sim_bslot (sim_bcons (sim_c fun _ => .int _) sim_bnil)))).toF (sim_c fun _ => .int _))))
      (sim_drop (sim_append (sim_cons ((sim_opE so_addA (sim_ixAV sim_var) ((sim_call0 (sim_bslot (sim_bcons (sim_c fun _ => .int _) sim_bnil)))).toF)).toF sim_nil)))
      (sim_drop (sim_append (sim_cons ((sim_call0 (sim_bslot (sim_bcons (sim_op so_sub (sim_op so_pow (sim_c fun _ => .int _) (sim_c fun _ => .int _)) (sim_c fun _ => .int _)) sim_bnil)))).toF sim_nil)))))
      (sim_drop (sim_append (sim_cons sim_var sim_nil))))))
      (sim_ret (sim_var).toE)))
      (by decide) (by decide) h
theorem ok_row (T : Txt K mg) : FnOk P w K mg base CX0 3 T.a_row T.d_row ["_law_stream_here", "_law_pool_here"] (SpM K (ctb T) [0] m_row) := by
  refine T.F_row.ok sc__law_row (fun vs H Q E h => SpM.len (np := 2) (n := 5) h) (fun cdv A outer s H vs Q E hr h => ⟨_, (pss_cons (ps_set (i := 2) sc__law_row.nd rfl (.inl rfl) (pe_lst pa_nil))
      (pss_cons (ps_for PassesOwn.never rfl (pi_seq (K := K) rfl (pv 1)) (pg_name (i := 3) sc__law_row.nd rfl (.inl rfl))
      (pss_cons (ps_set (i := 4) sc__law_row.nd rfl (.inl rfl) (pe_call (ok_draw T) (hr.mono (by decide)) (by rfl) T.g_draw T.F_draw.kp T.b_draw .nil pass0 (pa_cons (pv 0) (pa_cons pe_int pa_nil))))
      (pss_one (ps_if (pt_cmpR (op_eqA (K := K) rfl hr.units) (pv 4) pe_int (nomark _))
      (pss_one (ps_expr (pe_bmA (f := fun K => tBM K "list" rAppend (tVar 2) _) rfl (pe_bm PySem.F.plainAttrs_list PySem.F.slot_list_append PySem.F.type_list_append mt_append (pv 2) (pa_cons pe_non pa_nil)))))
      (pss_one (ps_if (pt_cmpR (op_eqA (K := K) rfl hr.units) (pv 4) pe_int (nomark _))
      (pss_one (ps_expr (pe_bmA (f := fun K => tBM K "list" rAppend (tVar 2) _) rfl (pe_bm PySem.F.plainAttrs_list PySem.F.slot_list_append PySem.F.type_list_append mt_append (pv 2) (pa_cons (pe_call (ok_number T) (hr.mono (by decide)) (by rfl) T.g_number T.F_number.kp T.b_number .nil pass0 (pa_cons (pv 0) (pa_cons (pe_op op_pow pe_int pe_int) pa_nil))) pa_nil)))))
      (pss_one (ps_expr (pe_bmA (f := fun K => tBM K "list" rAppend (tVar 2) _) rfl (pe_bm PySem.F.plainAttrs_list PySem.F.slot_list_append PySem.F.type_list_append mt_append (pv 2) (pa_cons (pe_op op_sub (pe_op (op_addA (K := K) rfl) (pe_ix (ix_A (K := K) rfl) (pv 3) (pe_call (ok_draw T) (hr.mono (by decide)) (by rfl) T.g_draw T.F_draw.kp T.b_draw .nil pass0 (pa_cons (pv 0) (pa_cons (pe_callB (cr_len (K := K) rfl) (by rfl) T.z_len PySem.boot_len (pa_cons (pv 3) pa_nil)) pa_nil))) (fun _ _ => rfl)) (pe_op op_mod (pe_callTy call_int1 (by rfl) T.z_int (by decide +kernel) (pa_cons (pv 4) pa_nil)) pe_int)) pe_int) pa_nil)))))))))))
      (pss_one (ps_ret (pe_callTy (cr_tuple (K := K) rfl) (by rfl) T.z_tuple (by decide +kernel) (pa_cons (pv 2) pa_nil)))))), ?_⟩)
  exact sim_fn (ct := ctb T) (ms := [0]) (np := 2) (N := N__law_row)
      (sim_seq (sim_set (sim_lst sim_nil) (by decide))
      (sim_seq (sim_for (sim_seqI sim_var) (sim_name (by decide))
      (sim_seq (sim_set (sim_call0 (sim_bslot (sim_bcons (sim_c fun _ => .int _) sim_bnil))) (by decide))
      (sim_ifS (sim_test (sim_op so_eqA sim_var (sim_c fun _ => .int _)))
      (sim_drop (sim_append (sim_cons (sim_c fun _ => .non) sim_nil)))
      (sim_ifS (sim_test (sim_op so_eqA sim_var (sim_c fun _ => .int _)))
      (sim_drop (sim_append (sim_cons ((sim_call0 (sim_bslot (sim_bcons (sim_op so_pow (sim_c fun _ => .int _) (sim_c fun _ => .int _)) sim_bnil)))).toF sim_nil)))
      (sim_drop (sim_append (sim_cons (sim_op so_sub ((sim_opE so_addA (sim_ixAV ((sim_call0 (sim_bslot (sim_bcons sim_lenV sim_bnil)))).toF) (sim_op so_mod (sim_cb so_int (sim_cons sim_var sim_nil)) (sim_c fun _ => .int _)))).toF (sim_c fun _ => .int _)) sim_nil)))))))
      (sim_ret ((sim_cb so_tuple (sim_cons sim_var sim_nil))).toE)))
      (by decide) (by decide) h
theorem ok_sizes (T : Txt K mg) : FnOk P w K mg base CX0 2 T.a_sizes T.d_sizes ["_law_stream_here", "_law_pages", "_law_slots"] (SpM K (ctb T) [0] m_sizes) := by
  refine T.F_sizes.ok sc__law_sizes (fun vs H Q E h => SpM.len (np := 3) (n := 6) h) (fun cdv A outer s H vs Q E hr h => ⟨_, (pss_cons (ps_set (i := 3) sc__law_sizes.nd rfl (.inl rfl) (pe_lst pa_nil))
      (pss_cons (ps_for PassesOwn.never rfl (pi_seq (K := K) rfl (pe_lst (pa_cons (pv 1) (pa_cons (pv 2) (pa_cons pe_int (pa_cons pe_int pa_nil)))))) (pg_name (i := 4) sc__law_sizes.nd rfl (.inl rfl))
      (pss_cons (ps_set (i := 5) sc__law_sizes.nd rfl (.inl rfl) (pe_call (ok_draw T) (hr.mono (by decide)) (by rfl) T.g_draw T.F_draw.kp T.b_draw .nil pass0 (pa_cons (pv 0) (pa_cons pe_int pa_nil))))
      (pss_one (ps_if (pt_cmpR (op_eqA (K := K) rfl hr.units) (pv 5) pe_int (nomark _))
      (pss_one (ps_expr (pe_bmA (f := fun K => tBM K "list" rAppend (tVar 3) _) rfl (pe_bm PySem.F.plainAttrs_list PySem.F.slot_list_append PySem.F.type_list_append mt_append (pv 3) (pa_cons (pv 4) pa_nil)))))
      (pss_one (ps_if (pt_cmpR (op_eqA (K := K) rfl hr.units) (pv 5) pe_int (nomark _))
      (pss_one (ps_expr (pe_bmA (f := fun K => tBM K "list" rAppend (tVar 3) _) rfl (pe_bm PySem.F.plainAttrs_list PySem.F.slot_list_append PySem.F.type_list_append mt_append (pv 3) (pa_cons pe_int pa_nil)))))
      (pss_one (ps_expr (pe_bmA (f := fun K => tBM K "list" rAppend (tVar 3) _) rfl (pe_bm PySem.F.plainAttrs_list PySem.F.slot_list_append PySem.F.type_list_append mt_append (pv 3) (pa_cons (pe_op (op_addA (K := K) rfl) pe_int (pe_call (ok_draw T) (hr.mono (by decide)) (by rfl) T.g_draw T.F_draw.kp T.b_draw .nil pass0 (pa_cons (pv 0) (pa_cons (pv 4) pa_nil)))) pa_nil)))))))))))
      (pss_one (ps_ret (pv 3))))), ?_⟩)
  exact sim_fn (ct := ctb T) (ms := [0]) (np := 3) (N := N__law_sizes)
      (sim_seq (sim_set (sim_lst sim_nil) (by decide))
      (sim_seq (sim_for (sim_seqI ((sim_lst (sim_cons sim_var (sim_cons sim_var (sim_cons (sim_c fun _ => .int _) (sim_cons (sim_c fun _ => .int _) sim_nil)))))).toF) (sim_name (by decide))
      (sim_seq (sim_set (sim_call0 (sim_bslot (sim_bcons (sim_c fun _ => .int _) sim_bnil))) (by decide))
      (sim_ifS (sim_test (sim_op so_eqA sim_var (sim_c fun _ => .int _)))
      (sim_drop (sim_append (sim_cons sim_var sim_nil)))
      (sim_ifS (sim_test (sim_op so_eqA sim_var (sim_c fun _ => .int _)))
      (sim_drop (sim_append (sim_cons (sim_c fun _ => .int _) sim_nil)))
      (sim_drop (sim_append (sim_cons ((sim_opE so_addA (sim_c fun _ => .int _) ((sim_call0 (sim_bslot (sim_bcons sim_var sim_bnil)))).toF)).toF sim_nil)))))))
      (sim_ret (sim_var).toE)))
      (by decide) (by decide) h
theorem ok_alike (T : Txt K mg) : FnOk P w K mg base CX0 1 T.a_alike T.d_alike ["_law_told", "_law_due"] (SpM K (ctb T) [] m_alike) := by
  refine T.F_alike.ok sc__law_alike (fun vs H Q E h => SpM.len (np := 2) (n := 8) h) (fun cdv A outer s H vs Q E hr h => ⟨_, (pss_cons (ps_set (i := 2) sc__law_alike.nd rfl (.inl rfl) (pe_lst (pa_cons (pe_lst (pa_cons (pv 0) (pa_cons (pv 1) pa_nil))) pa_nil)))
      (pss_cons (ps_for PassesOwn.never rfl (pi_range1 (by rfl) T.z_range (pa_cons pe_int pa_nil)) (pg_name (i := 3) sc__law_alike.nd rfl (.inl rfl))
      (pss_cons (ps_if (pt_cmpR (op_eqA (K := K) rfl hr.units) (pe_callB (cr_len (K := K) rfl) (by rfl) T.z_len PySem.boot_len (pa_cons (pv 2) pa_nil)) pe_int (nomark _))
      (pss_one (ps_ret pe_bl))
      pss_nil)
      (pss_cons (ps_set (i := 4) sc__law_alike.nd rfl (.inl rfl) (pe_bmA (f := fun K => tBM0 K "list" rPop (tVar 2)) rfl (pe_bm0 PySem.F.plainAttrs_list PySem.F.slot_list_pop PySem.F.type_list_pop mt_pop (pv 2))))
      (pss_cons (ps_set (i := 5) sc__law_alike.nd rfl (.inl rfl) (pe_ix (ix_A (K := K) rfl) (pv 4) pe_int (fun _ _ => rfl)))
      (pss_cons (ps_set (i := 6) sc__law_alike.nd rfl (.inl rfl) (pe_ix (ix_A (K := K) rfl) (pv 4) pe_int (fun _ _ => rfl)))
      (pss_one (ps_if (pt_val (pe_callB (cr_isi2 (K := K) rfl) (by rfl) T.z_isinstance (by decide +kernel) (pa_cons (pv 6) (pa_cons (pe_tup (pa_cons (pe_bltn (v := .ty "list") (by rfl) T.z_list (by decide +kernel) rfl) (pa_cons (pe_bltn (v := .ty "tuple") (by rfl) T.z_tuple (by decide +kernel) rfl) pa_nil))) pa_nil))))
      (pss_cons (ps_if (PW.pt (pw_or (pt_not (pt_val (pe_callB (cr_isi2 (K := K) rfl) (by rfl) T.z_isinstance (by decide +kernel) (pa_cons (pv 5) (pa_cons (pe_tup (pa_cons (pe_bltn (v := .ty "list") (by rfl) T.z_list (by decide +kernel) rfl) (pa_cons (pe_bltn (v := .ty "tuple") (by rfl) T.z_tuple (by decide +kernel) rfl) pa_nil))) pa_nil))))) (pw_or1 (pt_cmpR (op_neA (K := K) rfl hr.units) (pe_callB (cr_isi (K := K) rfl) (by rfl) T.z_isinstance (by decide +kernel) (pa_cons (pv 5) (pa_cons (pe_bltn (v := .ty "list") (by rfl) T.z_list (by decide +kernel) rfl) pa_nil))) (pe_callB (cr_isi (K := K) rfl) (by rfl) T.z_isinstance (by decide +kernel) (pa_cons (pv 6) (pa_cons (pe_bltn (v := .ty "list") (by rfl) T.z_list (by decide +kernel) rfl) pa_nil))) (nomark _)))))
      (pss_one (ps_ret pe_bl))
      pss_nil)
      (pss_cons (ps_if (pt_cmpR (op_neA (K := K) rfl hr.units) (pe_callB (cr_len (K := K) rfl) (by rfl) T.z_len PySem.boot_len (pa_cons (pv 5) pa_nil)) (pe_callB (cr_len (K := K) rfl) (by rfl) T.z_len PySem.boot_len (pa_cons (pv 6) pa_nil)) (nomark _))
      (pss_one (ps_ret pe_bl))
      pss_nil)
      (pss_one (ps_for PassesOwn.never rfl (pi_range1 (by rfl) T.z_range (pa_cons (pe_callB (cr_len (K := K) rfl) (by rfl) T.z_len PySem.boot_len (pa_cons (pv 6) pa_nil)) pa_nil)) (pg_name (i := 7) sc__law_alike.nd rfl (.inl rfl))
      (pss_one (ps_expr (pe_bmA (f := fun K => tBM K "list" rAppend (tVar 2) _) rfl (pe_bm PySem.F.plainAttrs_list PySem.F.slot_list_append PySem.F.type_list_append mt_append (pv 2) (pa_cons (pe_lst (pa_cons (pe_ix (ix_A (K := K) rfl) (pv 5) (pv 7) (fun _ _ => rfl)) (pa_cons (pe_ix (ix_A (K := K) rfl) (pv 6) (pv 7) (fun _ _ => rfl)) pa_nil))) pa_nil)))))))))
      (pss_one (ps_if (pt_cmpR op_isA (pv 6) pe_non (nomark _))
      (pss_one (ps_if (pt_cmpR op_notA (pv 5) pe_non (nomark _))
      (pss_one (ps_ret pe_bl))
      pss_nil))
      (pss_one (ps_if (pt_val (pe_callB (cr_isi (K := K) rfl) (by rfl) T.z_isinstance (by decide +kernel) (pa_cons (pv 6) (pa_cons (pe_bltn (v := .ty "bool") (by rfl) T.z_bool (by decide +kernel) rfl) pa_nil))))
      (pss_one (ps_if (PW.pt (pw_or (pt_not (pt_val (pe_callB (cr_isi (K := K) rfl) (by rfl) T.z_isinstance (by decide +kernel) (pa_cons (pv 5) (pa_cons (pe_bltn (v := .ty "bool") (by rfl) T.z_bool (by decide +kernel) rfl) pa_nil))))) (pw_or1 (pt_cmpR (op_neA (K := K) rfl hr.units) (pv 5) (pv 6) (nomark _)))))
      (pss_one (ps_ret pe_bl))
      pss_nil))
      (pss_one (ps_if (pt_val (pe_callB (cr_isi (K := K) rfl) (by rfl) T.z_isinstance (by decide +kernel) (pa_cons (pv 6) (pa_cons (pe_bltn (v := .ty "int") (by rfl) T.z_int (by decide +kernel) rfl) pa_nil))))
      (pss_one (ps_if (PW.pt (pw_or (pt_not (pt_val (pe_callB (cr_isi (K := K) rfl) (by rfl) T.z_isinstance (by decide +kernel) (pa_cons (pv 5) (pa_cons (pe_bltn (v := .ty "int") (by rfl) T.z_int (by decide +kernel) rfl) pa_nil))))) (pw_or (pt_val (pe_callB (cr_isi (K := K) rfl) (by rfl) T.z_isinstance (by decide +kernel) (pa_cons (pv 5) (pa_cons (pe_bltn (v := .ty "bool") (by rfl) T.z_bool (by decide +kernel) rfl) pa_nil)))) (pw_or1 (pt_cmpR (op_neA (K := K) rfl hr.units) (pv 5) (pv 6) (nomark _))))))
      (pss_one (ps_ret pe_bl))
      pss_nil))
      (pss_one (ps_if (PW.pt (pw_or (pt_not (pt_val (pe_callB (cr_isi (K := K) rfl) (by rfl) T.z_isinstance (by decide +kernel) (pa_cons (pv 5) (pa_cons (pe_bltn (v := .ty "str") (by rfl) T.z_str (by decide +kernel) rfl) pa_nil))))) (pw_or1 (pt_cmpR (op_neA (K := K) rfl hr.units) (pv 5) (pv 6) (nomark _)))))
      (pss_one (ps_ret pe_bl))
      pss_nil)))))))))))))))
      (pss_one (ps_ret pe_bl)))), ?_⟩)
  exact sim_fn (ct := ctb T) (ms := []) (np := 2) (N := N__law_alike)
      (sim_seq (sim_set (sim_lst (sim_cons ((sim_lst (sim_cons sim_var (sim_cons sim_var sim_nil)))).toF sim_nil)) (by decide))
      (sim_seq (sim_for (sim_rg1 (sim_cons (sim_c fun _ => .int _) sim_nil)) (sim_name (by decide))
      (sim_seq (sim_ifS (sim_test (sim_op so_eqA sim_lenV (sim_c fun _ => .int _)))
      (sim_ret ((sim_c fun _ => .bl _)).toE)
      sim_next)
      (sim_seq (sim_set (sim_pop).toE (by decide))
      (sim_seq (sim_set ((sim_ixAV (sim_c fun _ => .int _))).toE (by decide))
      (sim_seq (sim_set ((sim_ixAV (sim_c fun _ => .int _))).toE (by decide))
      (sim_ifS (sim_B (sim_isi2 sim_var))
      (sim_seq (sim_ifS (sim_or (sim_not (sim_B (sim_isi2 sim_var))) (sim_test (sim_op so_neA (sim_isi (T := .list) sim_var) (sim_isi (T := .list) sim_var))))
      (sim_ret ((sim_c fun _ => .bl _)).toE)
      sim_next)
      (sim_seq (sim_ifS (sim_test (sim_op so_neA sim_lenV sim_lenV))
      (sim_ret ((sim_c fun _ => .bl _)).toE)
      sim_next)
      (sim_for (sim_rg1 (sim_cons sim_lenV sim_nil)) (sim_name (by decide))
      (sim_drop (sim_append (sim_cons ((sim_lst (sim_cons (sim_ixAV sim_var) (sim_cons (sim_ixAV sim_var) sim_nil)))).toF sim_nil))))))
      (sim_ifS (sim_test (sim_op so_isA sim_var (sim_c fun _ => .non)))
      (sim_ifS (sim_test (sim_op so_notA sim_var (sim_c fun _ => .non)))
      (sim_ret ((sim_c fun _ => .bl _)).toE)
      sim_next)
      (sim_ifS (sim_B (sim_isi (T := .bool) sim_var))
      (sim_ifS (sim_or (sim_not (sim_B (sim_isi (T := .bool) sim_var))) (sim_test (sim_op so_neA sim_var sim_var)))
      (sim_ret ((sim_c fun _ => .bl _)).toE)
      sim_next)
      (sim_ifS (sim_B (sim_isi (T := .int) sim_var))
      (sim_ifS (sim_or (sim_not (sim_B (sim_isi (T := .int) sim_var))) (sim_or (sim_B (sim_isi (T := .bool) sim_var)) (sim_test (sim_op so_neA sim_var sim_var))))
      (sim_ret ((sim_c fun _ => .bl _)).toE)
      sim_next)
      (sim_ifS (sim_or (sim_not (sim_B (sim_isi (T := .str) sim_var))) (sim_test (sim_op so_neA sim_var sim_var)))
      (sim_ret ((sim_c fun _ => .bl _)).toE)
      sim_next))))))))))
      (sim_ret ((sim_c fun _ => .bl _)).toE)))
      (by decide) (by decide) h
theorem ok_first_free (T : Txt K mg) : FnOk P w K mg base CX0 1 T.a_first_free T.d_first_free ["_law_rows"] (SpM K (ctb T) [] m_first_free) := by
  refine T.F_first_free.ok sc__law_first_free (fun vs H Q E h => SpM.len (np := 1) (n := 2) h) (fun cdv A outer s H vs Q E hr h => ⟨_, (pss_cons (ps_for PassesOwn.never rfl (pi_range1 (by rfl) T.z_range (pa_cons (pe_callB (cr_len (K := K) rfl) (by rfl) T.z_len PySem.boot_len (pa_cons (pv 0) pa_nil)) pa_nil)) (pg_name (i := 1) sc__law_first_free.nd rfl (.inl rfl))
      (pss_one (ps_if (pt_cmpR op_isA (pe_ix (ix_A (K := K) rfl) (pv 0) (pv 1) (fun _ _ => rfl)) pe_non (nomark _))
      (pss_one (ps_ret (pv 1)))
      pss_nil)))
      (pss_one (ps_ret pe_non))), ?_⟩)
  exact sim_fn (ct := ctb T) (ms := []) (np := 1) (N := N__law_first_free)
      (sim_seq (sim_for (sim_rg1 (sim_cons sim_lenV sim_nil)) (sim_name (by decide))
      (sim_ifS (sim_test (sim_op so_isA (sim_ixAV sim_var) (sim_c fun _ => .non)))
      (sim_ret (sim_var).toE)
      sim_next))
      (sim_ret ((sim_c fun _ => .non)).toE))
      (by decide) (by decide) h
theorem ok_Shape_addresses (T : Txt K mg) : FnOk P w K mg base CX0 1 T.a_Shape_addresses T.d_Shape_addresses ["self"] (SpM K (ctb T) [] m_Shape_addresses) := by
  refine T.F_Shape_addresses.ok sc_Shape_addresses (fun vs H Q E h => SpM.len (np := 1) (n := 3) h) (fun cdv A outer s H vs Q E hr h => ⟨_, (pss_one (ps_ret (pe_lc2 (own := [("page", 1), ("slot", 2)]) (vs1 := [2]) (tt := tYes) (tt1 := tYes) rfl sc_Shape_addresses.nd (pi_range1 (by rfl) T.z_range (pa_cons (pe_slK (K := K) rfl (pv 0)) pa_nil)) (blkOk_by (own := [("page", 1), ("slot", 2)]) (N := N_Shape_addresses) (sc := defScope s_Shape_addresses) (by decide +kernel)) (by decide) (fun _ _ _ _ _ => (pg_name (i := 1) sc_Shape_addresses.nd rfl (Or.inl rfl))) (fun _ _ _ _ _ => pts_nil) (fun _ _ _ _ _ => (pi_range1 (by rfl) T.z_range (pa_cons (pe_slK (K := K) rfl (pv 0)) pa_nil))) (fun _ _ _ _ _ => (pg_name (i := 2) sc_Shape_addresses.nd rfl (Or.inl rfl))) (fun _ _ _ _ _ => pts_nil) (fun _ _ _ _ _ => (pe_tup (pa_cons (pv 1) (pa_cons (pv 2) pa_nil))))))), ?_⟩)
  exact sim_fn (ct := ctb T) (ms := []) (np := 1) (N := N_Shape_addresses)
      (sim_ret (sim_lc2 (vs := [1, 2]) (vs1 := [2]) (sim_rg1 (sim_cons (sim_fldS (c := 0) rfl T.sC_Shape T.sl_Shape_pages sim_var) sim_nil)) (sim_name (by decide)) (by decide) (by decide) sim_yes (sim_rg1 (sim_cons (sim_fldS (c := 0) rfl T.sC_Shape T.sl_Shape_slots sim_var) sim_nil)) (sim_name (by decide)) (by decide) (by decide) sim_yes (sim_tup (sim_cons sim_var (sim_cons sim_var sim_nil)))))
      (by decide) (by decide) h
theorem ok_Table_put (T : Txt K mg) : FnOk P w K mg base (L2.CX P w) 4 T.a_Table_put T.d_Table_put ["self", "row"] (SpM K (ctb T) [0, 1] m_Table_put) := by
  refine T.F_Table_put.okX sc_Table_put (fun vs H Q E h => SpM.len (np := 2) (n := 4) h) (fun cdv A outer s H vs Q E hr h => ⟨_, (pss_cons (ps_set (i := 2) sc_Table_put.nd rfl (.inl rfl) (pe_callS (ok_check_row T) (hr.mono (by decide)) (by rfl) T.g_check_row T.F_check_row.kp T.b_check_row (fun σ => passAt (takes_of rfl rfl rfl rfl) σ) (pa_cons (pv 1) (pa_cons (pe_slK (K := K) rfl (pe_fldK (K := K) rfl (pv 0))) pa_nil))))
      (pss_cons (ps_for (passes_of rfl) rfl (pi_seq (K := K) rfl (pe_methS0 (pl := _) (pe_fldK (K := K) rfl (pv 0)) T.sC_Shape T.me_Shape_addresses (fnr_of (ok_Shape_addresses T) T.b_Shape_addresses) (hr.mono (by decide)) pass0At)) (pg_name (i := 3) sc_Table_put.nd rfl (.inl rfl))
      (pss_one (ps_if (pt_cmpR (op_notInIA (K := K) rfl (units1 hr)) (pv 3) (pe_fldK (K := K) rfl (pv 0)) (by rfl))
      (pss_cons (ps_asg (pv 2) (pg_sub (pe_fldK (K := K) rfl (pv 0)) (pv 3) (set_dicIA (K := K) rfl (units1 hr))))
      (pss_one (ps_ret (pv 3))))
      pss_nil)))
      (pss_one (ps_raise rfl (takes_of rfl rfl rfl rfl) (pmk_own PySem.F.excBase_ValueError T.xF_TableFull T.g_TableFull T.kC_TableFull (raises_own T.cB_TableFull T.cT_TableFull) (by rfl)))))), ?_⟩)
  exact sim_fn (ct := ctb T) (ms := [0, 1]) (np := 2) (N := N_Table_put)
      (sim_seq (sim_set (sim_callS (sim_bslot (sim_bcons (sim_fldS (c := 0) rfl T.sC_Shape T.sl_Shape_columns (sim_fldV (c := 1) rfl T.hc_Table T.nf_Table_shape)) sim_bnil))) (by decide))
      (sim_seq (sim_for (sim_seqI ((sim_methS0 (c := 0) rfl (sim_fldV (c := 1) rfl T.hc_Table T.nf_Table_shape) sim_bnil)).toF) (sim_name (by decide))
      (sim_ifS (sim_test (sim_inFD (c := 1) rfl sim_var T.hc_Table T.nf_Table__rows))
      (sim_seq (sim_setFD (c := 1) rfl sim_var T.hc_Table T.nf_Table__rows)
      (sim_ret (sim_var).toE))
      sim_next))
      (sim_raise0 (c := 2) rfl)))
      (by decide) (by decide) h
theorem ok_Table_row_at (T : Txt K mg) : FnOk P w K mg base (L2.CX P w) 4 T.a_Table_row_at T.d_Table_row_at ["self", "address"] (SpM K (ctb T) [0] m_Table_row_at) := by
  refine T.F_Table_row_at.okX sc_Table_row_at (fun vs H Q E h => SpM.len (np := 2) (n := 2) h) (fun cdv A outer s H vs Q E hr h => ⟨_, (pss_cons (ps_expr (pe_callS (ok_check_address T) (hr.mono (by decide)) (by rfl) T.g_check_address T.F_check_address.kp T.b_check_address (fun σ => passAt (takes_of rfl rfl rfl rfl) σ) (pa_cons (pv 1) (pa_cons (pe_fldK (K := K) rfl (pv 0)) pa_nil))))
      (pss_one (ps_ret (pe_bmI PySem.F.slot_dict_get PySem.F.type_dict_get (mt_getI (K := K) rfl (units1 hr)) (pe_fldK (K := K) rfl (pv 0)) (pa_cons (pv 1) pa_nil))))), ?_⟩)
  exact sim_fn (ct := ctb T) (ms := [0]) (np := 2) (N := N_Table_row_at)
      (sim_seq (sim_drop ((sim_callS (sim_bcons sim_var (sim_bcons (sim_fldV (c := 1) rfl T.hc_Table T.nf_Table_shape) sim_bnil)))).toF)
      (sim_ret ((sim_getFD (c := 1) rfl T.hc_Table T.nf_Table__rows)).toE))
      (by decide) (by decide) h
theorem ok_put_right (T : Txt K mg) : FnOk P w K mg base CX0 5 T.a_put_right T.d_put_right ["_law_stream_here", "_law_pool_here", "_law_table", "_law_rows", "_law_slots"] (SpM K (ctb T) [0, 2, 3] m_put_right) := by
  refine T.F_put_right.ok sc__law_put_right (fun vs H Q E h => SpM.len (np := 5) (n := 11) (SpM.unX h E)) (fun cdv A outer s H vs Q E hr h => ⟨_, (pss_cons (ps_set (i := 5) sc__law_put_right.nd rfl (.inl rfl) (pe_call (ok_row T) (hr.mono (by decide)) (by rfl) T.g_row T.F_row.kp T.b_row .nil pass0 (pa_cons (pv 0) (pa_cons (pv 1) pa_nil))))
      (pss_cons (ps_set (i := 6) sc__law_put_right.nd rfl (.inl rfl) (pe_callTy (cr_list (K := K) rfl) (by rfl) T.z_list (by decide +kernel) (pa_cons (pv 5) pa_nil)))
      (pss_cons (ps_if (pt_cmpR (op_eqA (K := K) rfl hr.units) (pe_call (ok_draw T) (hr.mono (by decide)) (by rfl) T.g_draw T.F_draw.kp T.b_draw .nil pass0 (pa_cons (pv 0) (pa_cons pe_int pa_nil))) pe_int (nomark _))
      (pss_one (ps_set (i := 6) sc__law_put_right.nd rfl (.inl rfl) (pv 5)))
      pss_nil)
      (pss_cons (ps_set (i := 7) sc__law_put_right.nd rfl (.inl rfl) (pe_call (ok_first_free T) (hr.mono (by decide)) (by rfl) T.g_first_free T.F_first_free.kp T.b_first_free .nil pass0 (pa_cons (pv 3) pa_nil)))
      (pss_cons (ps_set (i := 8) sc__law_put_right.nd rfl (.inl rfl) (pe_lst pa_nil))
      (pss_cons (ps_try_as (i := 9) rfl rfl sc__law_put_right.nd rfl rfl ⟨rfl, by decide, .inl T.g_TableFull⟩ takes0 (fun W pn xe tk po => (pss_one (ps_set (i := 8) sc__law_put_right.nd rfl (.inl rfl) (pe_lst (pa_cons (pe_methD (pv 2) T.hc_Table T.me_Table_put (fnr_of (ok_Table_put T) T.b_Table_put) (hr.mono (by decide)) (fun σ => passAt tk σ) (pa_cons (pv 6) pa_nil)) pa_nil)))))
      (fun a oe cls d pn hz hf => (pss_one (ps_set (i := 8) sc__law_put_right.nd rfl (.inl rfl) (pe_lst (pa_cons pe_str (pa_cons (pe_callB (call_isN T.ie_TableFull hz hf) (by rfl) T.z_isinstance (by decide +kernel) (pa_cons (pv 9) (pa_cons (pe_glob (v := .ref T.C_PagesError) rfl T.g_PagesError rfl) pa_nil))) (pa_cons (pe_callB (call_isN T.ie_TableFull hz hf) (by rfl) T.z_isinstance (by decide +kernel) (pa_cons (pv 9) (pa_cons (pe_glob (v := .ref T.C_BadRow) rfl T.g_BadRow rfl) pa_nil))) pa_nil))))))))
      (pss_cons (ps_if (pt_val (pe_callB (cr_isi (K := K) rfl) (by rfl) T.z_isinstance (by decide +kernel) (pa_cons (pv 6) (pa_cons (pe_bltn (v := .ty "list") (by rfl) T.z_list (by decide +kernel) rfl) pa_nil))))
      (pss_one (ps_asg pe_non (pg_sub (pv 6) pe_int set_list)))
      pss_nil)
      (pss_cons (ps_if (pt_cmpR op_isA (pv 7) pe_non (nomark _))
      (pss_one (ps_ret (pe_call (ok_alike T) (hr.mono (by decide)) (by rfl) T.g_alike T.F_alike.kp T.b_alike .nil pass0 (pa_cons (pv 8) (pa_cons (pe_lst (pa_cons pe_str (pa_cons pe_bl (pa_cons pe_bl pa_nil)))) pa_nil)))))
      pss_nil)
      (pss_cons (ps_asg (pv 5) (pg_sub (pv 3) (pv 7) set_list))
      (pss_cons (ps_set (i := 10) sc__law_put_right.nd rfl (.inl rfl) (pe_tup (pa_cons (pe_op op_fdivW (pv 7) (pv 4)) (pa_cons (pe_op op_mod (pe_callTy call_int1 (by rfl) T.z_int (by decide +kernel) (pa_cons (pv 7) pa_nil)) (pv 4)) pa_nil))))
      (pss_one (ps_ret (pe_and (pe_call (ok_alike T) (hr.mono (by decide)) (by rfl) T.g_alike T.F_alike.kp T.b_alike .nil pass0 (pa_cons (pv 8) (pa_cons (pe_lst (pa_cons (pv 10) pa_nil)) pa_nil))) (pe_one (pe_call (ok_alike T) (hr.mono (by decide)) (by rfl) T.g_alike T.F_alike.kp T.b_alike .nil pass0 (pa_cons (pe_methD (pv 2) T.hc_Table T.me_Table_row_at (fnr_of (ok_Table_row_at T) T.b_Table_row_at) (hr.mono (by decide)) passFAt (pa_cons (pv 10) pa_nil)) (pa_cons (pv 5) pa_nil))))))))))))))))), ?_⟩)
  exact sim_fn (ct := ctb T) (ms := [0, 2, 3]) (np := 5) (N := N__law_put_right)
      (sim_seq (sim_set (sim_call0 (sim_bslot (sim_bcons sim_var sim_bnil))) (by decide))
      (sim_seq (sim_set (sim_cbL so_list (sim_cons sim_var sim_nil)) (by decide))
      (sim_seq (sim_ifS (sim_test (sim_op so_eqA ((sim_call0 (sim_bslot (sim_bcons (sim_c fun _ => .int _) sim_bnil)))).toF (sim_c fun _ => .int _)))
      (sim_set (sim_var).toE (by decide))
      sim_next)
      (sim_seq (sim_set ((sim_peek (sim_bslot sim_bnil))).toE (by decide))
      (sim_seq (sim_set (sim_lst sim_nil) (by decide))
      (sim_seq (sim_try (by decide) (fun c r e => T.fit_TableFull c r e) (fun W' => (sim_set (sim_lst (sim_cons ((sim_methDV (c := 1) rfl (sim_bslot sim_bnil))).toF sim_nil)) (by decide)))
      (fun a od c x hc => (sim_set (sim_lst (sim_cons (sim_c fun _ => .str _) (sim_cons (sim_isN (cX := 2) rfl (by simp) (if_pos rfl) T.kit_TableFull_PagesError) (sim_cons (sim_isN (cX := 2) rfl (by simp) (if_pos rfl) T.kit_TableFull_BadRow) sim_nil)))) (by decide))))
      (sim_seq (sim_ifS (sim_B (sim_isiV (T := .list)))
      (sim_setIx (sim_c fun _ => .non) (sim_c fun _ => .int _))
      sim_next)
      (sim_seq (sim_ifS (sim_test (sim_op so_isA sim_var (sim_c fun _ => .non)))
      (sim_ret (sim_call0 (sim_bcons sim_var (sim_bcons ((sim_lst (sim_cons (sim_c fun _ => .str _) (sim_cons (sim_c fun _ => .bl _) (sim_cons (sim_c fun _ => .bl _) sim_nil))))).toF sim_bnil))))
      sim_next)
      (sim_seq (sim_setIx sim_var sim_var)
      (sim_seq (sim_set ((sim_tup (sim_cons (sim_op so_div sim_var sim_var) (sim_cons (sim_op so_mod (sim_cb so_int (sim_cons sim_var sim_nil)) sim_var) sim_nil)))).toE (by decide))
      (sim_ret ((sim_andV ((sim_call0 (sim_bcons sim_var (sim_bcons ((sim_lst (sim_cons sim_var sim_nil))).toF sim_bnil)))).toF ((sim_call0 (sim_bcons ((sim_methDV0 (c := 1) rfl (sim_bcons sim_var sim_bnil))).toF (sim_bcons sim_var sim_bnil)))).toF)).toE)))))))))))
      (by decide) (by decide) (SpM.unX h E0)
theorem ok_Table_init (T : Txt K mg) : FnOk P w K mg base CX0 1 T.a_Table_init T.d_Table_init ["self", "shape"] (SpM K (ctb T) [0] m_Table_init) := by
  refine T.F_Table_init.ok sc_Table_init (fun vs H Q E h => SpM.len (np := 2) (n := 2) h) (fun cdv A outer s H vs Q E hr h => ⟨_, (pss_cons (ps_fldK (K := K) rfl (pv 0) (pv 1))
      (pss_one (ps_fldK (K := K) rfl (pv 0) pe_dnewI))), ?_⟩)
  exact sim_fn (ct := ctb T) (ms := [0]) (np := 2) (N := N_Table_init)
      (sim_seq (sim_setFld (c := 1) rfl (sim_var).toE T.hc_Table T.nf_Table_shape)
      (sim_setFld (c := 1) rfl sim_newDI T.hc_Table T.nf_Table__rows))
      (by decide) (by decide) h
theorem ok_Shape_init (T : Txt K mg) : FnOk P w K mg base (L2.CX P w) 3 T.a_Shape_init T.d_Shape_init ["self", "pages", "slots", "chunk", "columns"] (SpM K (ctb T) [0] m_Shape_init) := by
  refine T.F_Shape_init.ok sc_Shape_init (fun vs H Q E h => SpM.len (np := 5) (n := 5) h) (fun cdv A outer s H vs Q E hr h => ⟨_, (pss_cons (ps_expr (pe_callS (ok_check_extent T) (hr.mono (by decide)) (by rfl) T.g_check_extent T.F_check_extent.kp T.b_check_extent (fun σ => passAt (takes_of rfl rfl rfl rfl) σ) (pa_cons (pv 1) (pa_cons (pe_cvalK (K := K) rfl (pe_glob (v := .ref T.C_Shape) rfl T.g_Shape rfl)) pa_nil))))
      (pss_cons (ps_expr (pe_callS (ok_check_extent T) (hr.mono (by decide)) (by rfl) T.g_check_extent T.F_check_extent.kp T.b_check_extent (fun σ => passAt (takes_of rfl rfl rfl rfl) σ) (pa_cons (pv 2) (pa_cons (pe_cvalK (K := K) rfl (pe_glob (v := .ref T.C_Shape) rfl T.g_Shape rfl)) pa_nil))))
      (pss_cons (ps_expr (pe_callS (ok_check_extent T) (hr.mono (by decide)) (by rfl) T.g_check_extent T.F_check_extent.kp T.b_check_extent (fun σ => passAt (takes_of rfl rfl rfl rfl) σ) (pa_cons (pv 3) (pa_cons (pe_cvalK (K := K) rfl (pe_glob (v := .ref T.C_Shape) rfl T.g_Shape rfl)) pa_nil))))
      (pss_cons (ps_expr (pe_callS (ok_check_extent T) (hr.mono (by decide)) (by rfl) T.g_check_extent T.F_check_extent.kp T.b_check_extent (fun σ => passAt (takes_of rfl rfl rfl rfl) σ) (pa_cons (pv 4) (pa_cons (pe_cvalK (K := K) rfl (pe_glob (v := .ref T.C_Shape) rfl T.g_Shape rfl)) pa_nil))))
      (pss_cons (ps_slK (K := K) rfl (pv 0) (pv 1))
      (pss_cons (ps_slK (K := K) rfl (pv 0) (pv 2))
      (pss_cons (ps_slK (K := K) rfl (pv 0) (pv 3))
      (pss_one (ps_slK (K := K) rfl (pv 0) (pv 4)))))))))), ?_⟩)
  exact sim_fn (ct := ctb T) (ms := [0]) (np := 5) (N := N_Shape_init)
      (sim_seq (sim_drop ((sim_callS (sim_bcons sim_var (sim_bcons (sim_cval T.cr_Shape T.cv_Shape_MOST_PAGES fun _ => (.int _)) sim_bnil)))).toF)
      (sim_seq (sim_drop ((sim_callS (sim_bcons sim_var (sim_bcons (sim_cval T.cr_Shape T.cv_Shape_MOST_SLOTS fun _ => (.int _)) sim_bnil)))).toF)
      (sim_seq (sim_drop ((sim_callS (sim_bcons sim_var (sim_bcons (sim_cval T.cr_Shape T.cv_Shape_MOST_CHUNK fun _ => (.int _)) sim_bnil)))).toF)
      (sim_seq (sim_drop ((sim_callS (sim_bcons sim_var (sim_bcons (sim_cval T.cr_Shape T.cv_Shape_MOST_COLUMNS fun _ => (.int _)) sim_bnil)))).toF)
      (sim_seq (sim_setSl (c := 0) rfl sim_var T.sC_Shape (by show ("pages" : Str) ∈ (["chunk", "columns", "pages", "slots"] : List Str); decide) T.sl_Shape_pages)
      (sim_seq (sim_setSl (c := 0) rfl sim_var T.sC_Shape (by show ("slots" : Str) ∈ (["chunk", "columns", "pages", "slots"] : List Str); decide) T.sl_Shape_slots)
      (sim_seq (sim_setSl (c := 0) rfl sim_var T.sC_Shape (by show ("chunk" : Str) ∈ (["chunk", "columns", "pages", "slots"] : List Str); decide) T.sl_Shape_chunk)
      (sim_setSl (c := 0) rfl sim_var T.sC_Shape (by show ("columns" : Str) ∈ (["chunk", "columns", "pages", "slots"] : List Str); decide) T.sl_Shape_columns))))))))
      (by decide) (by decide) h
theorem ok_Table_take (T : Txt K mg) : FnOk P w K mg base (L2.CX P w) 4 T.a_Table_take T.d_Table_take ["self", "address"] (SpM K (ctb T) [0] m_Table_take) := by
  refine T.F_Table_take.okX sc_Table_take (fun vs H Q E h => SpM.len (np := 2) (n := 2) h) (fun cdv A outer s H vs Q E hr h => ⟨_, (pss_cons (ps_expr (pe_callS (ok_check_address T) (hr.mono (by decide)) (by rfl) T.g_check_address T.F_check_address.kp T.b_check_address (fun σ => passAt (takes_of rfl rfl rfl rfl) σ) (pa_cons (pv 1) (pa_cons (pe_fldK (K := K) rfl (pv 0)) pa_nil))))
      (pss_cons (ps_if (pt_cmpR (op_notInIA (K := K) rfl (units1 hr)) (pv 1) (pe_fldK (K := K) rfl (pv 0)) (by rfl))
      (pss_one (ps_raise rfl (takes_of rfl rfl rfl rfl) (pmk_oex T.oc_EmptySlot T.iC_EmptySlot T.tI_EmptySlot (ok_EmptySlot_init T) (hr.mono (by decide)) T.b_EmptySlot_init .nil pass0 (by rfl) T.g_EmptySlot (pa_cons (pv 1) pa_nil))))
      pss_nil)
      (pss_one (ps_ret (pe_bmI PySem.F.slot_dict_pop PySem.F.type_dict_pop (mt_popI (K := K) rfl (units1 hr)) (pe_fldK (K := K) rfl (pv 0)) (pa_cons (pv 1) pa_nil)))))), ?_⟩)
  exact sim_fn (ct := ctb T) (ms := [0]) (np := 2) (N := N_Table_take)
      (sim_seq (sim_drop ((sim_callS (sim_bcons sim_var (sim_bcons (sim_fldV (c := 1) rfl T.hc_Table T.nf_Table_shape) sim_bnil)))).toF)
      (sim_seq (sim_ifS (sim_test (sim_inFD (c := 1) rfl sim_var T.hc_Table T.nf_Table__rows))
      (sim_raise1 (c := 6) rfl rfl (sim_cons sim_var sim_nil))
      sim_next)
      (sim_ret ((sim_popFD (c := 1) rfl T.hc_Table T.nf_Table__rows)).toE)))
      (by decide) (by decide) h
theorem ok_Table_used (T : Txt K mg) : FnOk P w K mg base CX0 1 T.a_Table_used T.d_Table_used ["self"] (SpM K (ctb T) [0] m_Table_used) := by
  refine T.F_Table_used.ok sc_Table_used (fun vs H Q E h => SpM.len (np := 1) (n := 1) h) (fun cdv A outer s H vs Q E hr h => ⟨_, (pss_one (ps_ret (pe_callB (cr_lenI (K := K) rfl) (by rfl) T.z_len PySem.boot_len (pa_cons (pe_fldK (K := K) rfl (pv 0)) pa_nil)))), ?_⟩)
  exact sim_fn (ct := ctb T) (ms := [0]) (np := 1) (N := N_Table_used)
      (sim_ret ((sim_lenFD (c := 1) rfl T.hc_Table T.nf_Table__rows)).toE)
      (by decide) (by decide) h
theorem ok_law0 {f : Addr} {fd : FuncData} (F : Fun K "law" "law" s_law f fd) (T : Txt K mg) : FnOk P w K mg base CX0 6 f fd ["_law_script"] (SpM K (ctb T) [] m_law) := by
  refine F.ok sc_law (fun vs H Q E h => SpM.len (np := 1) (n := 12) h) (fun cdv A outer s H vs Q E hr h => ⟨_, (pss_cons (ps_set (i := 1) sc_law.nd rfl (.inl rfl) (pe_call (ok_stream T) (hr.mono (by decide)) (by rfl) T.g_stream T.F_stream.kp T.b_stream .nil pass0 (pa_cons (pv 0) pa_nil)))
      (pss_cons (ps_set (i := 2) sc_law.nd rfl (.inl rfl) (pe_call (ok_sizes T) (hr.mono (by decide)) (by rfl) T.g_sizes T.F_sizes.kp T.b_sizes .nil pass0 (pa_cons (pv 1) (pa_cons pe_int (pa_cons pe_int pa_nil)))))
      (pss_cons (ps_set (i := 3) sc_law.nd rfl (.inl rfl) (pe_ix (ix_A (K := K) rfl) (pv 2) pe_int (fun _ _ => rfl)))
      (pss_cons (ps_set (i := 4) sc_law.nd rfl (.inl rfl) (pe_call (ok_pool T) (hr.mono (by decide)) (by rfl) T.g_pool T.F_pool.kp T.b_pool .nil pass0 (pa_cons (pv 1) (pa_cons (pe_ix (ix_A (K := K) rfl) (pv 2) pe_int (fun _ _ => rfl)) pa_nil))))
      (pss_cons (ps_set (i := 5) sc_law.nd rfl (.inl rfl) (pe_makeDS (dvs := []) T.mk_Table (ok_Table_init T) (hr.mono (by decide)) (by rfl) T.g_Table T.b_Table_init .nil pass0At (pa_cons (pe_makeKS T.mk_Shape (ok_Shape_init T) (hr.mono (by decide)) (by rfl) T.g_Shape (kb_Shape_init_chunk_columns T).choose_spec passFAt (pa_cons (pe_ix (ix_A (K := K) rfl) (pv 2) pe_int (fun _ _ => rfl)) (pa_cons (pv 3) pa_nil)) (pk_cons (pe_ix (ix_A (K := K) rfl) (pv 2) pe_int (fun _ _ => rfl)) (pk_cons (pe_ix (ix_A (K := K) rfl) (pv 2) pe_int (fun _ _ => rfl)) pk_nil))) pa_nil)))
      (pss_cons (ps_set (i := 6) sc_law.nd rfl (.inl rfl) (pe_op (op_mulA (K := K) rfl) (pe_ix (ix_A (K := K) rfl) (pv 2) pe_int (fun _ _ => rfl)) (pv 3)))
      (pss_cons (ps_set (i := 7) sc_law.nd rfl (.inl rfl) (pe_op (op_mulA (K := K) rfl) (pe_lst (pa_cons pe_non pa_nil)) (pv 6)))
      (pss_cons (ps_set (i := 8) sc_law.nd rfl (.inl rfl) (pe_call (ok_draw T) (hr.mono (by decide)) (by rfl) T.g_draw T.F_draw.kp T.b_draw .nil pass0 (pa_cons (pv 1) (pa_cons (pe_op (op_addA (K := K) rfl) (pv 6) pe_int) pa_nil))))
      (pss_cons (ps_if (pt_cmpR (op_eqA (K := K) rfl hr.units) (pe_call (ok_draw T) (hr.mono (by decide)) (by rfl) T.g_draw T.F_draw.kp T.b_draw .nil pass0 (pa_cons (pv 1) (pa_cons pe_int pa_nil))) pe_int (nomark _))
      (pss_one (ps_set (i := 8) sc_law.nd rfl (.inl rfl) (pv 6)))
      pss_nil)
      (pss_cons (ps_for PassesOwn.never rfl (pi_range1 (by rfl) T.z_range (pa_cons (pv 8) pa_nil)) (pg_name (i := 9) sc_law.nd rfl (.inl rfl))
      (pss_one (ps_if (pt_not (pt_tru (K := K) rfl (pe_call (ok_put_right T) (hr.mono (by decide)) (by rfl) T.g_put_right T.F_put_right.kp T.b_put_right .nil pass0 (pa_cons (pv 1) (pa_cons (pv 4) (pa_cons (pv 5) (pa_cons (pv 7) (pa_cons (pv 3) pa_nil))))))))
      (pss_one (ps_ret pe_bl))
      pss_nil)))
      (pss_cons (ps_for PassesOwn.never rfl (pi_range1 (by rfl) T.z_range (pa_cons (pe_op (op_addA (K := K) rfl) pe_int (pe_call (ok_draw T) (hr.mono (by decide)) (by rfl) T.g_draw T.F_draw.kp T.b_draw .nil pass0 (pa_cons (pv 1) (pa_cons pe_int pa_nil)))) pa_nil)) (pg_name (i := 9) sc_law.nd rfl (.inl rfl))
      (pss_cons (ps_set (i := 10) sc_law.nd rfl (.inl rfl) (pe_call (ok_draw T) (hr.mono (by decide)) (by rfl) T.g_draw T.F_draw.kp T.b_draw .nil pass0 (pa_cons (pv 1) (pa_cons (pv 6) pa_nil))))
      (pss_cons (ps_if (PW.pt (pw_and (pt_cmpR (op_eqA (K := K) rfl hr.units) (pe_call (ok_draw T) (hr.mono (by decide)) (by rfl) T.g_draw T.F_draw.kp T.b_draw .nil pass0 (pa_cons (pv 1) (pa_cons pe_int pa_nil))) pe_int (nomark _)) (pw_and1 (pt_cmpR op_notA (pe_ix (ix_A (K := K) rfl) (pv 7) (pv 10) (fun _ _ => rfl)) pe_non (nomark _)))))
      (pss_cons (ps_if (pt_not (pt_tru (K := K) rfl (pe_call (ok_alike T) (hr.mono (by decide)) (by rfl) T.g_alike T.F_alike.kp T.b_alike .nil pass0 (pa_cons (pe_methD (pv 5) T.hc_Table T.me_Table_take (fnr_of (ok_Table_take T) T.b_Table_take) (hr.mono (by decide)) passFAt (pa_cons (pe_tup (pa_cons (pe_op op_fdivW (pv 10) (pv 3)) (pa_cons (pe_op op_mod (pe_callTy call_int1 (by rfl) T.z_int (by decide +kernel) (pa_cons (pv 10) pa_nil)) (pv 3)) pa_nil))) pa_nil)) (pa_cons (pe_ix (ix_A (K := K) rfl) (pv 7) (pv 10) (fun _ _ => rfl)) pa_nil)))))
      (pss_one (ps_ret pe_bl))
      pss_nil)
      (pss_one (ps_asg pe_non (pg_sub (pv 7) (pv 10) set_list))))
      (pss_one (ps_if (pt_not (pt_tru (K := K) rfl (pe_call (ok_put_right T) (hr.mono (by decide)) (by rfl) T.g_put_right T.F_put_right.kp T.b_put_right .nil pass0 (pa_cons (pv 1) (pa_cons (pv 4) (pa_cons (pv 5) (pa_cons (pv 7) (pa_cons (pv 3) pa_nil))))))))
      (pss_one (ps_ret pe_bl))
      pss_nil)))
      (pss_one (ps_if (pt_not (pt_tru (K := K) rfl (pe_call (ok_alike T) (hr.mono (by decide)) (by rfl) T.g_alike T.F_alike.kp T.b_alike .nil pass0 (pa_cons (pe_propX (E1 := E0) (pv 5) T.pp0_Table_used (fnr_of (ok_Table_used T) T.b_Table_used) (hr.mono (by decide)) (fun _ _ _ _ h => h)) (pa_cons (pe_callB (cr_len (K := K) rfl) (by rfl) T.z_len PySem.boot_len (pa_cons (pe_lc (own := [("_law_row_here", 11)]) rfl sc_law.nd (pi_seq (K := K) rfl (pv 7)) (blkOk_by (own := [("_law_row_here", 11)]) (N := N_law) (sc := defScope s_law) (by decide +kernel)) (fun _ _ _ _ _ => (pg_name (i := 11) sc_law.nd rfl (Or.inl rfl))) (fun _ _ _ _ _ => (pts_one (pt_cmpR op_notA (pv 11) pe_non (nomark _)))) (fun _ _ _ _ _ => (pv 11))) pa_nil)) pa_nil)))))
      (pss_one (ps_ret pe_bl))
      pss_nil)))))
      (pss_cons (ps_for PassesOwn.never rfl (pi_range1 (by rfl) T.z_range (pa_cons (pv 6) pa_nil)) (pg_name (i := 9) sc_law.nd rfl (.inl rfl))
      (pss_one (ps_if (pt_not (pt_tru (K := K) rfl (pe_call (ok_alike T) (hr.mono (by decide)) (by rfl) T.g_alike T.F_alike.kp T.b_alike .nil pass0 (pa_cons (pe_methD (pv 5) T.hc_Table T.me_Table_row_at (fnr_of (ok_Table_row_at T) T.b_Table_row_at) (hr.mono (by decide)) passFAt (pa_cons (pe_tup (pa_cons (pe_op op_fdivW (pv 9) (pv 3)) (pa_cons (pe_op op_mod (pe_callTy call_int1 (by rfl) T.z_int (by decide +kernel) (pa_cons (pv 9) pa_nil)) (pv 3)) pa_nil))) pa_nil)) (pa_cons (pe_ix (ix_A (K := K) rfl) (pv 7) (pv 9) (fun _ _ => rfl)) pa_nil)))))
      (pss_one (ps_ret pe_bl))
      pss_nil)))
      (pss_one (ps_ret pe_bl)))))))))))))), ?_⟩)
  exact sim_fn (ct := ctb T) (ms := []) (np := 1) (N := N_law)
      (sim_seq (sim_set (sim_call0 (sim_bcons sim_var sim_bnil)) (by decide))
      (sim_seq (sim_set (sim_call0 (sim_bslot (sim_bcons (sim_c fun _ => .int _) (sim_bcons (sim_c fun _ => .int _) sim_bnil)))) (by decide))
      (sim_seq (sim_set ((sim_ixAV (sim_c fun _ => .int _))).toE (by decide))
      (sim_seq (sim_set (sim_call0 (sim_bslot (sim_bcons (sim_ixAV (sim_c fun _ => .int _)) sim_bnil))) (by decide))
      (sim_seq (sim_set (sim_makeDS0 (c := 1) (sim_bcons ((sim_makeKS0 (c := 0) (sim_bcons (sim_ixAV (sim_c fun _ => .int _)) (sim_bcons sim_var sim_bnil)) (sim_cons (sim_ixAV (sim_c fun _ => .int _)) (sim_cons (sim_ixAV (sim_c fun _ => .int _)) sim_nil)) (fun σ R vs zs as bs h1 h2 => h1.app (h2.app (.of Reps.nil))) (fun _ _ _ => rfl))).toF sim_bnil) (fun R => Reps.nil)) (by decide))
      (sim_seq (sim_set (sim_opE so_mulA (sim_ixAV (sim_c fun _ => .int _)) sim_var) (by decide))
      (sim_seq (sim_set (sim_opE so_mulA ((sim_lst (sim_cons (sim_c fun _ => .non) sim_nil))).toF sim_var) (by decide))
      (sim_seq (sim_set (sim_call0 (sim_bslot (sim_bcons ((sim_opE so_addA sim_var (sim_c fun _ => .int _))).toF sim_bnil))) (by decide))
      (sim_seq (sim_ifS (sim_test (sim_op so_eqA ((sim_call0 (sim_bslot (sim_bcons (sim_c fun _ => .int _) sim_bnil)))).toF (sim_c fun _ => .int _)))
      (sim_set (sim_var).toE (by decide))
      sim_next)
      (sim_seq (sim_for (sim_rg1 (sim_cons sim_var sim_nil)) (sim_name (by decide))
      (sim_ifS (sim_not (sim_tru ((sim_call0 (sim_bslot (sim_bcons sim_var (sim_bslot (sim_bslot (sim_bcons sim_var sim_bnil))))))).toF))
      (sim_ret ((sim_c fun _ => .bl _)).toE)
      sim_next))
      (sim_seq (sim_for (sim_rg1 (sim_cons ((sim_opE so_addA (sim_c fun _ => .int _) ((sim_call0 (sim_bslot (sim_bcons (sim_c fun _ => .int _) sim_bnil)))).toF)).toF sim_nil)) (sim_name (by decide))
      (sim_seq (sim_set (sim_call0 (sim_bslot (sim_bcons sim_var sim_bnil))) (by decide))
      (sim_seq (sim_ifS (sim_and (sim_test (sim_op so_eqA ((sim_call0 (sim_bslot (sim_bcons (sim_c fun _ => .int _) sim_bnil)))).toF (sim_c fun _ => .int _))) (sim_test (sim_op so_notA (sim_ixAV sim_var) (sim_c fun _ => .non))))
      (sim_seq (sim_ifS (sim_not (sim_tru ((sim_call0 (sim_bcons ((sim_methDV0 (c := 1) rfl (sim_bcons (sim_tup (sim_cons (sim_op so_div sim_var sim_var) (sim_cons (sim_op so_mod (sim_cb so_int (sim_cons sim_var sim_nil)) sim_var) sim_nil))) sim_bnil))).toF (sim_bcons (sim_ixAV sim_var) sim_bnil)))).toF))
      (sim_ret ((sim_c fun _ => .bl _)).toE)
      sim_next)
      (sim_setIx (sim_c fun _ => .non) sim_var))
      (sim_ifS (sim_not (sim_tru ((sim_call0 (sim_bslot (sim_bcons sim_var (sim_bslot (sim_bslot (sim_bcons sim_var sim_bnil))))))).toF))
      (sim_ret ((sim_c fun _ => .bl _)).toE)
      sim_next))
      (sim_ifS (sim_not (sim_tru ((sim_call0 (sim_bcons ((sim_propXV (c := 1) rfl)).toF (sim_bcons (sim_cb so_len (sim_cons ((sim_lcV (vs := [11]) (sim_name (by decide)) (by decide) (by decide) (sim_test (sim_op so_notA sim_var (sim_c fun _ => .non))) sim_var)).toF sim_nil)) sim_bnil)))).toF))
      (sim_ret ((sim_c fun _ => .bl _)).toE)
      sim_next))))
      (sim_seq (sim_for (sim_rg1 (sim_cons sim_var sim_nil)) (sim_name (by decide))
      (sim_ifS (sim_not (sim_tru ((sim_call0 (sim_bcons ((sim_methDV0 (c := 1) rfl (sim_bcons (sim_tup (sim_cons (sim_op so_div sim_var sim_var) (sim_cons (sim_op so_mod (sim_cb so_int (sim_cons sim_var sim_nil)) sim_var) sim_nil))) sim_bnil))).toF (sim_bcons (sim_ixAV sim_var) sim_bnil)))).toF))
      (sim_ret ((sim_c fun _ => .bl _)).toE)
      sim_next))
      (sim_ret ((sim_c fun _ => .bl _)).toE)))))))))))))
      (by decide) (by decide) h
end
def spLaw (K : PySem.W.Frag) : Sp := fun vs H Q _ => ∃ (a : Addr) (ns : List Int), vs = [.ref a] ∧ SqL K H a (ns.map V.int) ∧ ns.length ≤ 63 ∧ ∀ H', Q (.bl true) H'
theorem ok_law {P : Program} {w : World} {K : PySem.W.Frag} {mg : Str → Option Value} {base : Heap} {f : Addr} {fd : FuncData} (F : Fun K "law" "law" s_law f fd) (T : Txt K mg) : FnOk P w K mg base CX0 6 f fd ["_law_script"] (spLaw K) := FnOk.imp (ok_law0 F T) fun vs H Q E h => law_sp law_true h
theorem all_mk {l : PySem.W.OpenLaw} {w : World} {K : PySem.W.Frag} {h : Heap} {mg : Str → Option Value} {fa : Addr} (X : K.In h) (G : h.Ns mainGlobals mg) (hfa : mg "law" = some (.ref fa))
    {C_PagesError : Addr}
    {C_BadShape : Addr}
    {C_TableFull : Addr}
    {C_NoPlace : Addr}
    {C_BadRow : Addr}
    {C_SlotTaken : Addr}
    {C_EmptySlot : Addr}
    {nm_NoPlace q_NoPlace : Str} {NS_NoPlace : Addr} {bs_NoPlace : List Value} {sn_NoPlace : List Str} {sb_NoPlace : List Value} {ab_NoPlace : Bool} {co_NoPlace : Option Bool} {dd_NoPlace : Option Addr} {m0_NoPlace m1_NoPlace m2_NoPlace m3_NoPlace m5_NoPlace : Option Value}
    {nm_BadRow q_BadRow : Str} {NS_BadRow : Addr} {bs_BadRow : List Value} {sn_BadRow : List Str} {sb_BadRow : List Value} {ab_BadRow : Bool} {co_BadRow : Option Bool} {dd_BadRow : Option Addr} {m0_BadRow m1_BadRow m2_BadRow m3_BadRow m5_BadRow : Option Value}
    {nm_SlotTaken q_SlotTaken : Str} {NS_SlotTaken : Addr} {bs_SlotTaken : List Value} {sn_SlotTaken : List Str} {sb_SlotTaken : List Value} {ab_SlotTaken : Bool} {co_SlotTaken : Option Bool} {dd_SlotTaken : Option Addr} {m0_SlotTaken m1_SlotTaken m2_SlotTaken m3_SlotTaken m5_SlotTaken : Option Value}
    {nm_EmptySlot q_EmptySlot : Str} {NS_EmptySlot : Addr} {bs_EmptySlot : List Value} {sn_EmptySlot : List Str} {sb_EmptySlot : List Value} {ab_EmptySlot : Bool} {co_EmptySlot : Option Bool} {dd_EmptySlot : Option Addr} {m0_EmptySlot m1_EmptySlot m2_EmptySlot m3_EmptySlot m5_EmptySlot : Option Value}
    {C_Shape : Addr}
    {pS_Shape_chunk : Addr}
    {pS_Shape_columns : Addr}
    {pS_Shape_pages : Addr}
    {pS_Shape_slots : Addr}
    {ct_Shape_MOST_PAGES : Tok}
    {ct_Shape_MOST_SLOTS : Tok}
    {ct_Shape_MOST_CHUNK : Tok}
    {ct_Shape_MOST_COLUMNS : Tok}
    {C_Table : Addr}
    {f0 : Addr} {od0 an0 : Option Addr} {sl0 : Array (Option Value)} {oc0 kV0 dc0 pm0 cd0 ct0 : Value}
    {f1 : Addr} {od1 an1 : Option Addr} {sl1 : Array (Option Value)} {oc1 kV1 dc1 pm1 cd1 ct1 : Value}
    {f2 : Addr} {od2 an2 : Option Addr} {sl2 : Array (Option Value)} {oc2 kV2 dc2 pm2 cd2 ct2 : Value}
    {f3 : Addr} {od3 an3 : Option Addr} {sl3 : Array (Option Value)} {oc3 kV3 dc3 pm3 cd3 ct3 : Value}
    {f4 : Addr} {od4 an4 : Option Addr} {sl4 : Array (Option Value)} {oc4 kV4 dc4 pm4 cd4 ct4 : Value}
    {f5 : Addr} {od5 an5 : Option Addr} {sl5 : Array (Option Value)} {oc5 kV5 dc5 pm5 cd5 ct5 : Value}
    {f6 : Addr} {od6 an6 : Option Addr} {sl6 : Array (Option Value)} {oc6 kV6 dc6 pm6 cd6 ct6 : Value}
    {f7 : Addr} {od7 an7 : Option Addr} {sl7 : Array (Option Value)} {oc7 kV7 dc7 pm7 cd7 ct7 : Value}
    {f8 : Addr} {od8 an8 : Option Addr} {sl8 : Array (Option Value)} {oc8 kV8 dc8 pm8 cd8 ct8 : Value}
    {f9 : Addr} {od9 an9 : Option Addr} {sl9 : Array (Option Value)} {oc9 kV9 dc9 pm9 cd9 ct9 : Value}
    {f10 : Addr} {od10 an10 : Option Addr} {sl10 : Array (Option Value)} {oc10 kV10 dc10 pm10 cd10 ct10 : Value}
    {f11 : Addr} {od11 an11 : Option Addr} {sl11 : Array (Option Value)} {oc11 kV11 dc11 pm11 cd11 ct11 : Value}
    {f12 : Addr} {od12 an12 : Option Addr} {sl12 : Array (Option Value)} {oc12 kV12 dc12 pm12 cd12 ct12 : Value}
    {f13 : Addr} {od13 an13 : Option Addr} {sl13 : Array (Option Value)} {oc13 kV13 dc13 pm13 cd13 ct13 : Value}
    {f14 : Addr} {od14 an14 : Option Addr} {sl14 : Array (Option Value)} {oc14 kV14 dc14 pm14 cd14 ct14 : Value}
    {f15 : Addr} {od15 an15 : Option Addr} {sl15 : Array (Option Value)} {oc15 kV15 dc15 pm15 cd15 ct15 : Value}
    {f16 : Addr} {od16 an16 : Option Addr} {sl16 : Array (Option Value)} {oc16 kV16 dc16 pm16 cd16 ct16 : Value}
    {f17 : Addr} {od17 an17 : Option Addr} {sl17 : Array (Option Value)} {oc17 kV17 dc17 pm17 cd17 ct17 : Value}
    {f18 : Addr} {od18 an18 : Option Addr} {sl18 : Array (Option Value)} {oc18 kV18 dc18 pm18 cd18 ct18 : Value}
    {f19 : Addr} {od19 an19 : Option Addr} {sl19 : Array (Option Value)} {oc19 kV19 dc19 pm19 cd19 ct19 : Value}
    {f20 : Addr} {od20 an20 : Option Addr} {sl20 : Array (Option Value)} {oc20 kV20 dc20 pm20 cd20 ct20 : Value}
    {f21 : Addr} {od21 an21 : Option Addr} {sl21 : Array (Option Value)} {oc21 kV21 dc21 pm21 cd21 ct21 : Value}
    {f22 : Addr} {od22 an22 : Option Addr} {sl22 : Array (Option Value)} {oc22 dc22 pm22 cd22 ct22 : Value}
    {kd22 : Addr}
    {kt22_0 : Tok}
    {kt22_1 : Tok}
    {f23 : Addr} {od23 an23 : Option Addr} {sl23 : Array (Option Value)} {oc23 kV23 dc23 pm23 cd23 ct23 : Value}
    {f24 : Addr} {od24 an24 : Option Addr} {sl24 : Array (Option Value)} {oc24 kV24 dc24 pm24 cd24 ct24 : Value}
    {pp24 : Addr} {rs24 : List Value}
    {f25 : Addr} {od25 an25 : Option Addr} {sl25 : Array (Option Value)} {oc25 kV25 dc25 pm25 cd25 ct25 : Value}
    {t_GREATEST : Tok}
    (gC_PagesError : PySem.W.nsIn K mainGlobals "PagesError" = some (some (.ref C_PagesError)))
    (gC_BadShape : PySem.W.nsIn K mainGlobals "BadShape" = some (some (.ref C_BadShape)))
    (gC_TableFull : PySem.W.nsIn K mainGlobals "TableFull" = some (some (.ref C_TableFull)))
    (gC_NoPlace : PySem.W.nsIn K mainGlobals "NoPlace" = some (some (.ref C_NoPlace)))
    (gC_BadRow : PySem.W.nsIn K mainGlobals "BadRow" = some (some (.ref C_BadRow)))
    (gC_SlotTaken : PySem.W.nsIn K mainGlobals "SlotTaken" = some (some (.ref C_SlotTaken)))
    (gC_EmptySlot : PySem.W.nsIn K mainGlobals "EmptySlot" = some (some (.ref C_EmptySlot)))
    (kgC : PySem.W.specialIn K (.builtin "object.__class__") "__get__" = some (some (.builtin "getset_descriptor.__get__")))
    (ktC : PySem.W.takesIn K (.builtin "object.__class__") = some true)
    (ga_PagesError : PySem.W.findIn K (.ref C_PagesError) "__getattribute__" = some (some (.builtin "BaseException.__getattribute__")))
    (gt_PagesError : PySem.W.findIn K (.ref C_PagesError) "__getattr__" = some none)
    (sub_PagesError : PySem.W.subIn K (.ref C_PagesError) (.type "BaseException") = some true)
    (kc_PagesError : PySem.W.findIn K (.ref C_PagesError) "__class__" = some (some (.builtin "object.__class__")))
    (ob_PagesError : PySem.W.mroIn K C_PagesError (.type "object") = some true)
    (cI_PagesError : PySem.W.isClsIn K C_PagesError = true)
    (cT_PagesError : PySem.W.typeIn K (.ref C_PagesError) = some (.type "type"))
    (hd_PagesError : PySem.W.hasDictIn K C_PagesError = true)
    (kC_PagesError : PySem.W.keepIn K (.ref C_PagesError) = true)
    (sv_PagesError : PySem.W.subIn K (.ref C_PagesError) (.type "ValueError") = some true)
    (xF_PagesError : PySem.W.excIn K C_PagesError [.type "ValueError", .type "Exception", .type "BaseException", .type "object"] "ValueError.__new__" = true)
    (sg_PagesError : PySem.W.specialIn K (.ref C_PagesError) "__getattribute__" = some (some (.builtin "type.__getattribute__")))
    (rd_PagesError : PySem.W.readsIn K C_PagesError (.type "type") = true)
    (vV_PagesError : PySem.W.findCls K (.ref C_PagesError) (.type "type") "__init__" = some (.val (.builtin "ValueError.__init__")))
    (su_PagesError_PagesError : PySem.W.subIn K (.ref C_PagesError) (.ref C_PagesError) = some true)
    (su_PagesError_BadShape : PySem.W.subIn K (.ref C_PagesError) (.ref C_BadShape) = some false)
    (su_PagesError_TableFull : PySem.W.subIn K (.ref C_PagesError) (.ref C_TableFull) = some false)
    (su_PagesError_NoPlace : PySem.W.subIn K (.ref C_PagesError) (.ref C_NoPlace) = some false)
    (su_PagesError_BadRow : PySem.W.subIn K (.ref C_PagesError) (.ref C_BadRow) = some false)
    (su_PagesError_SlotTaken : PySem.W.subIn K (.ref C_PagesError) (.ref C_SlotTaken) = some false)
    (su_PagesError_EmptySlot : PySem.W.subIn K (.ref C_PagesError) (.ref C_EmptySlot) = some false)
    (ga_BadShape : PySem.W.findIn K (.ref C_BadShape) "__getattribute__" = some (some (.builtin "BaseException.__getattribute__")))
    (gt_BadShape : PySem.W.findIn K (.ref C_BadShape) "__getattr__" = some none)
    (sub_BadShape : PySem.W.subIn K (.ref C_BadShape) (.type "BaseException") = some true)
    (kc_BadShape : PySem.W.findIn K (.ref C_BadShape) "__class__" = some (some (.builtin "object.__class__")))
    (ob_BadShape : PySem.W.mroIn K C_BadShape (.type "object") = some true)
    (cI_BadShape : PySem.W.isClsIn K C_BadShape = true)
    (cT_BadShape : PySem.W.typeIn K (.ref C_BadShape) = some (.type "type"))
    (hd_BadShape : PySem.W.hasDictIn K C_BadShape = true)
    (kC_BadShape : PySem.W.keepIn K (.ref C_BadShape) = true)
    (sv_BadShape : PySem.W.subIn K (.ref C_BadShape) (.type "ValueError") = some true)
    (xF_BadShape : PySem.W.excIn K C_BadShape [.type "ValueError", .type "Exception", .type "BaseException", .type "object"] "ValueError.__new__" = true)
    (sg_BadShape : PySem.W.specialIn K (.ref C_BadShape) "__getattribute__" = some (some (.builtin "type.__getattribute__")))
    (rd_BadShape : PySem.W.readsIn K C_BadShape (.type "type") = true)
    (vV_BadShape : PySem.W.findCls K (.ref C_BadShape) (.type "type") "__init__" = some (.val (.builtin "ValueError.__init__")))
    (su_BadShape_PagesError : PySem.W.subIn K (.ref C_BadShape) (.ref C_PagesError) = some true)
    (su_BadShape_BadShape : PySem.W.subIn K (.ref C_BadShape) (.ref C_BadShape) = some true)
    (su_BadShape_TableFull : PySem.W.subIn K (.ref C_BadShape) (.ref C_TableFull) = some false)
    (su_BadShape_NoPlace : PySem.W.subIn K (.ref C_BadShape) (.ref C_NoPlace) = some false)
    (su_BadShape_BadRow : PySem.W.subIn K (.ref C_BadShape) (.ref C_BadRow) = some false)
    (su_BadShape_SlotTaken : PySem.W.subIn K (.ref C_BadShape) (.ref C_SlotTaken) = some false)
    (su_BadShape_EmptySlot : PySem.W.subIn K (.ref C_BadShape) (.ref C_EmptySlot) = some false)
    (ga_TableFull : PySem.W.findIn K (.ref C_TableFull) "__getattribute__" = some (some (.builtin "BaseException.__getattribute__")))
    (gt_TableFull : PySem.W.findIn K (.ref C_TableFull) "__getattr__" = some none)
    (sub_TableFull : PySem.W.subIn K (.ref C_TableFull) (.type "BaseException") = some true)
    (kc_TableFull : PySem.W.findIn K (.ref C_TableFull) "__class__" = some (some (.builtin "object.__class__")))
    (ob_TableFull : PySem.W.mroIn K C_TableFull (.type "object") = some true)
    (cI_TableFull : PySem.W.isClsIn K C_TableFull = true)
    (cT_TableFull : PySem.W.typeIn K (.ref C_TableFull) = some (.type "type"))
    (hd_TableFull : PySem.W.hasDictIn K C_TableFull = true)
    (kC_TableFull : PySem.W.keepIn K (.ref C_TableFull) = true)
    (sv_TableFull : PySem.W.subIn K (.ref C_TableFull) (.type "ValueError") = some true)
    (xF_TableFull : PySem.W.excIn K C_TableFull [.type "ValueError", .type "Exception", .type "BaseException", .type "object"] "ValueError.__new__" = true)
    (sg_TableFull : PySem.W.specialIn K (.ref C_TableFull) "__getattribute__" = some (some (.builtin "type.__getattribute__")))
    (rd_TableFull : PySem.W.readsIn K C_TableFull (.type "type") = true)
    (vV_TableFull : PySem.W.findCls K (.ref C_TableFull) (.type "type") "__init__" = some (.val (.builtin "ValueError.__init__")))
    (su_TableFull_PagesError : PySem.W.subIn K (.ref C_TableFull) (.ref C_PagesError) = some true)
    (su_TableFull_BadShape : PySem.W.subIn K (.ref C_TableFull) (.ref C_BadShape) = some false)
    (su_TableFull_TableFull : PySem.W.subIn K (.ref C_TableFull) (.ref C_TableFull) = some true)
    (su_TableFull_NoPlace : PySem.W.subIn K (.ref C_TableFull) (.ref C_NoPlace) = some false)
    (su_TableFull_BadRow : PySem.W.subIn K (.ref C_TableFull) (.ref C_BadRow) = some false)
    (su_TableFull_SlotTaken : PySem.W.subIn K (.ref C_TableFull) (.ref C_SlotTaken) = some false)
    (su_TableFull_EmptySlot : PySem.W.subIn K (.ref C_TableFull) (.ref C_EmptySlot) = some false)
    (ga_NoPlace : PySem.W.findIn K (.ref C_NoPlace) "__getattribute__" = some (some (.builtin "BaseException.__getattribute__")))
    (gt_NoPlace : PySem.W.findIn K (.ref C_NoPlace) "__getattr__" = some none)
    (sub_NoPlace : PySem.W.subIn K (.ref C_NoPlace) (.type "BaseException") = some true)
    (kc_NoPlace : PySem.W.findIn K (.ref C_NoPlace) "__class__" = some (some (.builtin "object.__class__")))
    (ob_NoPlace : PySem.W.mroIn K C_NoPlace (.type "object") = some true)
    (cI_NoPlace : PySem.W.isClsIn K C_NoPlace = true)
    (cT_NoPlace : PySem.W.typeIn K (.ref C_NoPlace) = some (.type "type"))
    (hd_NoPlace : PySem.W.hasDictIn K C_NoPlace = true)
    (kC_NoPlace : PySem.W.keepIn K (.ref C_NoPlace) = true)
    (xL_NoPlace : K.lookup C_NoPlace = some (excClassObj nm_NoPlace q_NoPlace C_NoPlace NS_NoPlace bs_NoPlace [.ref C_PagesError, .type "ValueError", .type "Exception", .type "BaseException", .type "object"] true sn_NoPlace sb_NoPlace ab_NoPlace co_NoPlace dd_NoPlace m0_NoPlace m1_NoPlace m2_NoPlace m3_NoPlace m5_NoPlace "ValueError.__new__"))
    (sa_NoPlace : PySem.W.findIn K (.ref C_NoPlace) "__setattr__" = some (some (.builtin "object.__setattr__")))
    (no_NoPlace : PySem.W.findIn K (.ref C_NoPlace) "place" = some none)
    (su_NoPlace_PagesError : PySem.W.subIn K (.ref C_NoPlace) (.ref C_PagesError) = some true)
    (su_NoPlace_BadShape : PySem.W.subIn K (.ref C_NoPlace) (.ref C_BadShape) = some false)
    (su_NoPlace_TableFull : PySem.W.subIn K (.ref C_NoPlace) (.ref C_TableFull) = some false)
    (su_NoPlace_NoPlace : PySem.W.subIn K (.ref C_NoPlace) (.ref C_NoPlace) = some true)
    (su_NoPlace_BadRow : PySem.W.subIn K (.ref C_NoPlace) (.ref C_BadRow) = some false)
    (su_NoPlace_SlotTaken : PySem.W.subIn K (.ref C_NoPlace) (.ref C_SlotTaken) = some false)
    (su_NoPlace_EmptySlot : PySem.W.subIn K (.ref C_NoPlace) (.ref C_EmptySlot) = some false)
    (ga_BadRow : PySem.W.findIn K (.ref C_BadRow) "__getattribute__" = some (some (.builtin "BaseException.__getattribute__")))
    (gt_BadRow : PySem.W.findIn K (.ref C_BadRow) "__getattr__" = some none)
    (sub_BadRow : PySem.W.subIn K (.ref C_BadRow) (.type "BaseException") = some true)
    (kc_BadRow : PySem.W.findIn K (.ref C_BadRow) "__class__" = some (some (.builtin "object.__class__")))
    (ob_BadRow : PySem.W.mroIn K C_BadRow (.type "object") = some true)
    (cI_BadRow : PySem.W.isClsIn K C_BadRow = true)
    (cT_BadRow : PySem.W.typeIn K (.ref C_BadRow) = some (.type "type"))
    (hd_BadRow : PySem.W.hasDictIn K C_BadRow = true)
    (kC_BadRow : PySem.W.keepIn K (.ref C_BadRow) = true)
    (xL_BadRow : K.lookup C_BadRow = some (excClassObj nm_BadRow q_BadRow C_BadRow NS_BadRow bs_BadRow [.ref C_PagesError, .type "ValueError", .type "Exception", .type "BaseException", .type "object"] true sn_BadRow sb_BadRow ab_BadRow co_BadRow dd_BadRow m0_BadRow m1_BadRow m2_BadRow m3_BadRow m5_BadRow "ValueError.__new__"))
    (sa_BadRow : PySem.W.findIn K (.ref C_BadRow) "__setattr__" = some (some (.builtin "object.__setattr__")))
    (no_BadRow : PySem.W.findIn K (.ref C_BadRow) "row" = some none)
    (su_BadRow_PagesError : PySem.W.subIn K (.ref C_BadRow) (.ref C_PagesError) = some true)
    (su_BadRow_BadShape : PySem.W.subIn K (.ref C_BadRow) (.ref C_BadShape) = some false)
    (su_BadRow_TableFull : PySem.W.subIn K (.ref C_BadRow) (.ref C_TableFull) = some false)
    (su_BadRow_NoPlace : PySem.W.subIn K (.ref C_BadRow) (.ref C_NoPlace) = some false)
    (su_BadRow_BadRow : PySem.W.subIn K (.ref C_BadRow) (.ref C_BadRow) = some true)
    (su_BadRow_SlotTaken : PySem.W.subIn K (.ref C_BadRow) (.ref C_SlotTaken) = some false)
    (su_BadRow_EmptySlot : PySem.W.subIn K (.ref C_BadRow) (.ref C_EmptySlot) = some false)
    (ga_SlotTaken : PySem.W.findIn K (.ref C_SlotTaken) "__getattribute__" = some (some (.builtin "BaseException.__getattribute__")))
    (gt_SlotTaken : PySem.W.findIn K (.ref C_SlotTaken) "__getattr__" = some none)
    (sub_SlotTaken : PySem.W.subIn K (.ref C_SlotTaken) (.type "BaseException") = some true)
    (kc_SlotTaken : PySem.W.findIn K (.ref C_SlotTaken) "__class__" = some (some (.builtin "object.__class__")))
    (ob_SlotTaken : PySem.W.mroIn K C_SlotTaken (.type "object") = some true)
    (cI_SlotTaken : PySem.W.isClsIn K C_SlotTaken = true)
    (cT_SlotTaken : PySem.W.typeIn K (.ref C_SlotTaken) = some (.type "type"))
    (hd_SlotTaken : PySem.W.hasDictIn K C_SlotTaken = true)
    (kC_SlotTaken : PySem.W.keepIn K (.ref C_SlotTaken) = true)
    (xL_SlotTaken : K.lookup C_SlotTaken = some (excClassObj nm_SlotTaken q_SlotTaken C_SlotTaken NS_SlotTaken bs_SlotTaken [.ref C_PagesError, .type "ValueError", .type "Exception", .type "BaseException", .type "object"] true sn_SlotTaken sb_SlotTaken ab_SlotTaken co_SlotTaken dd_SlotTaken m0_SlotTaken m1_SlotTaken m2_SlotTaken m3_SlotTaken m5_SlotTaken "ValueError.__new__"))
    (sa_SlotTaken : PySem.W.findIn K (.ref C_SlotTaken) "__setattr__" = some (some (.builtin "object.__setattr__")))
    (no_SlotTaken : PySem.W.findIn K (.ref C_SlotTaken) "address" = some none)
    (su_SlotTaken_PagesError : PySem.W.subIn K (.ref C_SlotTaken) (.ref C_PagesError) = some true)
    (su_SlotTaken_BadShape : PySem.W.subIn K (.ref C_SlotTaken) (.ref C_BadShape) = some false)
    (su_SlotTaken_TableFull : PySem.W.subIn K (.ref C_SlotTaken) (.ref C_TableFull) = some false)
    (su_SlotTaken_NoPlace : PySem.W.subIn K (.ref C_SlotTaken) (.ref C_NoPlace) = some false)
    (su_SlotTaken_BadRow : PySem.W.subIn K (.ref C_SlotTaken) (.ref C_BadRow) = some false)
    (su_SlotTaken_SlotTaken : PySem.W.subIn K (.ref C_SlotTaken) (.ref C_SlotTaken) = some true)
    (su_SlotTaken_EmptySlot : PySem.W.subIn K (.ref C_SlotTaken) (.ref C_EmptySlot) = some false)
    (ga_EmptySlot : PySem.W.findIn K (.ref C_EmptySlot) "__getattribute__" = some (some (.builtin "BaseException.__getattribute__")))
    (gt_EmptySlot : PySem.W.findIn K (.ref C_EmptySlot) "__getattr__" = some none)
    (sub_EmptySlot : PySem.W.subIn K (.ref C_EmptySlot) (.type "BaseException") = some true)
    (kc_EmptySlot : PySem.W.findIn K (.ref C_EmptySlot) "__class__" = some (some (.builtin "object.__class__")))
    (ob_EmptySlot : PySem.W.mroIn K C_EmptySlot (.type "object") = some true)
    (cI_EmptySlot : PySem.W.isClsIn K C_EmptySlot = true)
    (cT_EmptySlot : PySem.W.typeIn K (.ref C_EmptySlot) = some (.type "type"))
    (hd_EmptySlot : PySem.W.hasDictIn K C_EmptySlot = true)
    (kC_EmptySlot : PySem.W.keepIn K (.ref C_EmptySlot) = true)
    (xL_EmptySlot : K.lookup C_EmptySlot = some (excClassObj nm_EmptySlot q_EmptySlot C_EmptySlot NS_EmptySlot bs_EmptySlot [.ref C_PagesError, .type "ValueError", .type "Exception", .type "BaseException", .type "object"] true sn_EmptySlot sb_EmptySlot ab_EmptySlot co_EmptySlot dd_EmptySlot m0_EmptySlot m1_EmptySlot m2_EmptySlot m3_EmptySlot m5_EmptySlot "ValueError.__new__"))
    (sa_EmptySlot : PySem.W.findIn K (.ref C_EmptySlot) "__setattr__" = some (some (.builtin "object.__setattr__")))
    (no_EmptySlot : PySem.W.findIn K (.ref C_EmptySlot) "address" = some none)
    (su_EmptySlot_PagesError : PySem.W.subIn K (.ref C_EmptySlot) (.ref C_PagesError) = some true)
    (su_EmptySlot_BadShape : PySem.W.subIn K (.ref C_EmptySlot) (.ref C_BadShape) = some false)
    (su_EmptySlot_TableFull : PySem.W.subIn K (.ref C_EmptySlot) (.ref C_TableFull) = some false)
    (su_EmptySlot_NoPlace : PySem.W.subIn K (.ref C_EmptySlot) (.ref C_NoPlace) = some false)
    (su_EmptySlot_BadRow : PySem.W.subIn K (.ref C_EmptySlot) (.ref C_BadRow) = some false)
    (su_EmptySlot_SlotTaken : PySem.W.subIn K (.ref C_EmptySlot) (.ref C_SlotTaken) = some false)
    (su_EmptySlot_EmptySlot : PySem.W.subIn K (.ref C_EmptySlot) (.ref C_EmptySlot) = some true)
    (gC_Shape : PySem.W.nsIn K mainGlobals "Shape" = some (some (.ref C_Shape)))
    (pgc_Shape : PySem.W.plainGet K C_Shape Str.empty = true)
    (icc_Shape : PySem.W.isClsIn K C_Shape = true)
    (poc_Shape : PySem.W.plainOver K C_Shape = true)
    (sac_Shape : PySem.W.findIn K (.ref C_Shape) "__setattr__" = some (some (.builtin "object.__setattr__")))
    (kpc_Shape : PySem.W.keepIn K (.ref C_Shape) = true)
    (mkc_Shape : PySem.W.makesIn K C_Shape = true)
    (s1_Shape_chunk : PySem.W.findIn K (.ref C_Shape) "chunk" = some (some (.ref pS_Shape_chunk)))
    (s2_Shape_chunk : PySem.W.specialIn K (.ref pS_Shape_chunk) "__get__" = some (some (.builtin "member_descriptor.__get__")))
    (s3_Shape_chunk : PySem.W.takesIn K (.ref pS_Shape_chunk) = some true)
    (s4_Shape_chunk : PySem.W.typeIn K (.ref pS_Shape_chunk) = some (.type "member_descriptor"))
    (s5_Shape_chunk : PySem.W.slotIn K pS_Shape_chunk C_Shape = some 0)
    (s1_Shape_columns : PySem.W.findIn K (.ref C_Shape) "columns" = some (some (.ref pS_Shape_columns)))
    (s2_Shape_columns : PySem.W.specialIn K (.ref pS_Shape_columns) "__get__" = some (some (.builtin "member_descriptor.__get__")))
    (s3_Shape_columns : PySem.W.takesIn K (.ref pS_Shape_columns) = some true)
    (s4_Shape_columns : PySem.W.typeIn K (.ref pS_Shape_columns) = some (.type "member_descriptor"))
    (s5_Shape_columns : PySem.W.slotIn K pS_Shape_columns C_Shape = some 1)
    (s1_Shape_pages : PySem.W.findIn K (.ref C_Shape) "pages" = some (some (.ref pS_Shape_pages)))
    (s2_Shape_pages : PySem.W.specialIn K (.ref pS_Shape_pages) "__get__" = some (some (.builtin "member_descriptor.__get__")))
    (s3_Shape_pages : PySem.W.takesIn K (.ref pS_Shape_pages) = some true)
    (s4_Shape_pages : PySem.W.typeIn K (.ref pS_Shape_pages) = some (.type "member_descriptor"))
    (s5_Shape_pages : PySem.W.slotIn K pS_Shape_pages C_Shape = some 2)
    (s1_Shape_slots : PySem.W.findIn K (.ref C_Shape) "slots" = some (some (.ref pS_Shape_slots)))
    (s2_Shape_slots : PySem.W.specialIn K (.ref pS_Shape_slots) "__get__" = some (some (.builtin "member_descriptor.__get__")))
    (s3_Shape_slots : PySem.W.takesIn K (.ref pS_Shape_slots) = some true)
    (s4_Shape_slots : PySem.W.typeIn K (.ref pS_Shape_slots) = some (.type "member_descriptor"))
    (s5_Shape_slots : PySem.W.slotIn K pS_Shape_slots C_Shape = some 3)
    (rdc_Shape : PySem.W.readsIn K C_Shape (.type "type") = true)
    (sgc_Shape : PySem.W.specialIn K (.ref C_Shape) "__getattribute__" = some (some (.builtin "type.__getattribute__")))
    (cv_Shape_MOST_PAGES : PySem.W.findCls K (.ref C_Shape) (.type "type") "MOST_PAGES" = some (.val (.int (16) ct_Shape_MOST_PAGES)))
    (cv_Shape_MOST_SLOTS : PySem.W.findCls K (.ref C_Shape) (.type "type") "MOST_SLOTS" = some (.val (.int (8) ct_Shape_MOST_SLOTS)))
    (cv_Shape_MOST_CHUNK : PySem.W.findCls K (.ref C_Shape) (.type "type") "MOST_CHUNK" = some (.val (.int (16) ct_Shape_MOST_CHUNK)))
    (cv_Shape_MOST_COLUMNS : PySem.W.findCls K (.ref C_Shape) (.type "type") "MOST_COLUMNS" = some (.val (.int (3) ct_Shape_MOST_COLUMNS)))
    (gC_Table : PySem.W.nsIn K mainGlobals "Table" = some (some (.ref C_Table)))
    (pgc_Table : PySem.W.plainGet K C_Table Str.empty = true)
    (icc_Table : PySem.W.isClsIn K C_Table = true)
    (poc_Table : PySem.W.plainOver K C_Table = true)
    (sac_Table : PySem.W.findIn K (.ref C_Table) "__setattr__" = some (some (.builtin "object.__setattr__")))
    (kpc_Table : PySem.W.keepIn K (.ref C_Table) = true)
    (mkc_Table : PySem.W.makesIn K C_Table = true)
    (hdi_Table : PySem.W.hasDictIn K C_Table = true)
    (nf_Table_shape : PySem.W.findIn K (.ref C_Table) "shape" = some none)
    (nf_Table__rows : PySem.W.findIn K (.ref C_Table) "_rows" = some none)
    (a0 : PySem.W.findIn K (.ref C_NoPlace) "__init__" = some (some (.ref f0)))
    (t0 : PySem.W.typeIn K (.ref f0) = some (.type "function"))
    (l0 : K.lookup f0 = some ⟨oc0, od0, .func (PySem.W.fnOf "__init__" "NoPlace.__init__" (defArgs s_NoPlace_init) (defBody s_NoPlace_init) (defScope s_NoPlace_init) .none kV0 dc0 pm0 an0 cd0 ct0), sl0⟩)
    (c0 : PySem.W.codeIn K cd0 "NoPlace.__init__" = true)
    (k0 : PySem.W.keepIn K (.ref f0) = true)
    (a1 : PySem.W.findIn K (.ref C_BadRow) "__init__" = some (some (.ref f1)))
    (t1 : PySem.W.typeIn K (.ref f1) = some (.type "function"))
    (l1 : K.lookup f1 = some ⟨oc1, od1, .func (PySem.W.fnOf "__init__" "BadRow.__init__" (defArgs s_BadRow_init) (defBody s_BadRow_init) (defScope s_BadRow_init) .none kV1 dc1 pm1 an1 cd1 ct1), sl1⟩)
    (c1 : PySem.W.codeIn K cd1 "BadRow.__init__" = true)
    (k1 : PySem.W.keepIn K (.ref f1) = true)
    (a2 : PySem.W.findIn K (.ref C_SlotTaken) "__init__" = some (some (.ref f2)))
    (t2 : PySem.W.typeIn K (.ref f2) = some (.type "function"))
    (l2 : K.lookup f2 = some ⟨oc2, od2, .func (PySem.W.fnOf "__init__" "SlotTaken.__init__" (defArgs s_SlotTaken_init) (defBody s_SlotTaken_init) (defScope s_SlotTaken_init) .none kV2 dc2 pm2 an2 cd2 ct2), sl2⟩)
    (c2 : PySem.W.codeIn K cd2 "SlotTaken.__init__" = true)
    (k2 : PySem.W.keepIn K (.ref f2) = true)
    (a3 : PySem.W.findIn K (.ref C_EmptySlot) "__init__" = some (some (.ref f3)))
    (t3 : PySem.W.typeIn K (.ref f3) = some (.type "function"))
    (l3 : K.lookup f3 = some ⟨oc3, od3, .func (PySem.W.fnOf "__init__" "EmptySlot.__init__" (defArgs s_EmptySlot_init) (defBody s_EmptySlot_init) (defScope s_EmptySlot_init) .none kV3 dc3 pm3 an3 cd3 ct3), sl3⟩)
    (c3 : PySem.W.codeIn K cd3 "EmptySlot.__init__" = true)
    (k3 : PySem.W.keepIn K (.ref f3) = true)
    (a4 : PySem.W.nsIn K mainGlobals "is_between" = some (some (.ref f4)))
    (l4 : K.lookup f4 = some ⟨oc4, od4, .func (PySem.W.fnOf "is_between" "is_between" (defArgs s_is_between) (defBody s_is_between) (defScope s_is_between) .none kV4 dc4 pm4 an4 cd4 ct4), sl4⟩)
    (c4 : PySem.W.codeIn K cd4 "is_between" = true)
    (k4 : PySem.W.keepIn K (.ref f4) = true)
    (a5 : PySem.W.nsIn K mainGlobals "check_extent" = some (some (.ref f5)))
    (l5 : K.lookup f5 = some ⟨oc5, od5, .func (PySem.W.fnOf "check_extent" "check_extent" (defArgs s_check_extent) (defBody s_check_extent) (defScope s_check_extent) .none kV5 dc5 pm5 an5 cd5 ct5), sl5⟩)
    (c5 : PySem.W.codeIn K cd5 "check_extent" = true)
    (k5 : PySem.W.keepIn K (.ref f5) = true)
    (a6 : PySem.W.findIn K (.ref C_Shape) "__contains__" = some (some (.ref f6)))
    (fn6 : PySem.W.isFn K (.ref f6) = true)
    (l6 : K.lookup f6 = some ⟨oc6, od6, .func (PySem.W.fnOf "__contains__" "Shape.__contains__" (defArgs s_Shape_contains) (defBody s_Shape_contains) (defScope s_Shape_contains) .none kV6 dc6 pm6 an6 cd6 ct6), sl6⟩)
    (c6 : PySem.W.codeIn K cd6 "Shape.__contains__" = true)
    (k6 : PySem.W.keepIn K (.ref f6) = true)
    (a7 : PySem.W.nsIn K mainGlobals "check_address" = some (some (.ref f7)))
    (l7 : K.lookup f7 = some ⟨oc7, od7, .func (PySem.W.fnOf "check_address" "check_address" (defArgs s_check_address) (defBody s_check_address) (defScope s_check_address) .none kV7 dc7 pm7 an7 cd7 ct7), sl7⟩)
    (c7 : PySem.W.codeIn K cd7 "check_address" = true)
    (k7 : PySem.W.keepIn K (.ref f7) = true)
    (a8 : PySem.W.nsIn K mainGlobals "check_row" = some (some (.ref f8)))
    (l8 : K.lookup f8 = some ⟨oc8, od8, .func (PySem.W.fnOf "check_row" "check_row" (defArgs s_check_row) (defBody s_check_row) (defScope s_check_row) .none kV8 dc8 pm8 an8 cd8 ct8), sl8⟩)
    (c8 : PySem.W.codeIn K cd8 "check_row" = true)
    (k8 : PySem.W.keepIn K (.ref f8) = true)
    (a9 : PySem.W.nsIn K mainGlobals "_law_stream" = some (some (.ref f9)))
    (l9 : K.lookup f9 = some ⟨oc9, od9, .func (PySem.W.fnOf "_law_stream" "_law_stream" (defArgs s__law_stream) (defBody s__law_stream) (defScope s__law_stream) .none kV9 dc9 pm9 an9 cd9 ct9), sl9⟩)
    (c9 : PySem.W.codeIn K cd9 "_law_stream" = true)
    (k9 : PySem.W.keepIn K (.ref f9) = true)
    (a10 : PySem.W.nsIn K mainGlobals "_law_draw" = some (some (.ref f10)))
    (l10 : K.lookup f10 = some ⟨oc10, od10, .func (PySem.W.fnOf "_law_draw" "_law_draw" (defArgs s__law_draw) (defBody s__law_draw) (defScope s__law_draw) .none kV10 dc10 pm10 an10 cd10 ct10), sl10⟩)
    (c10 : PySem.W.codeIn K cd10 "_law_draw" = true)
    (k10 : PySem.W.keepIn K (.ref f10) = true)
    (a11 : PySem.W.nsIn K mainGlobals "_law_number" = some (some (.ref f11)))
    (l11 : K.lookup f11 = some ⟨oc11, od11, .func (PySem.W.fnOf "_law_number" "_law_number" (defArgs s__law_number) (defBody s__law_number) (defScope s__law_number) .none kV11 dc11 pm11 an11 cd11 ct11), sl11⟩)
    (c11 : PySem.W.codeIn K cd11 "_law_number" = true)
    (k11 : PySem.W.keepIn K (.ref f11) = true)
    (a12 : PySem.W.nsIn K mainGlobals "_law_pool" = some (some (.ref f12)))
    (l12 : K.lookup f12 = some ⟨oc12, od12, .func (PySem.W.fnOf "_law_pool" "_law_pool" (defArgs s__law_pool) (defBody s__law_pool) (defScope s__law_pool) .none kV12 dc12 pm12 an12 cd12 ct12), sl12⟩)
    (c12 : PySem.W.codeIn K cd12 "_law_pool" = true)
    (k12 : PySem.W.keepIn K (.ref f12) = true)
    (a13 : PySem.W.nsIn K mainGlobals "_law_row" = some (some (.ref f13)))
    (l13 : K.lookup f13 = some ⟨oc13, od13, .func (PySem.W.fnOf "_law_row" "_law_row" (defArgs s__law_row) (defBody s__law_row) (defScope s__law_row) .none kV13 dc13 pm13 an13 cd13 ct13), sl13⟩)
    (c13 : PySem.W.codeIn K cd13 "_law_row" = true)
    (k13 : PySem.W.keepIn K (.ref f13) = true)
    (a14 : PySem.W.nsIn K mainGlobals "_law_sizes" = some (some (.ref f14)))
    (l14 : K.lookup f14 = some ⟨oc14, od14, .func (PySem.W.fnOf "_law_sizes" "_law_sizes" (defArgs s__law_sizes) (defBody s__law_sizes) (defScope s__law_sizes) .none kV14 dc14 pm14 an14 cd14 ct14), sl14⟩)
    (c14 : PySem.W.codeIn K cd14 "_law_sizes" = true)
    (k14 : PySem.W.keepIn K (.ref f14) = true)
    (a15 : PySem.W.nsIn K mainGlobals "_law_alike" = some (some (.ref f15)))
    (l15 : K.lookup f15 = some ⟨oc15, od15, .func (PySem.W.fnOf "_law_alike" "_law_alike" (defArgs s__law_alike) (defBody s__law_alike) (defScope s__law_alike) .none kV15 dc15 pm15 an15 cd15 ct15), sl15⟩)
    (c15 : PySem.W.codeIn K cd15 "_law_alike" = true)
    (k15 : PySem.W.keepIn K (.ref f15) = true)
    (a16 : PySem.W.nsIn K mainGlobals "_law_first_free" = some (some (.ref f16)))
    (l16 : K.lookup f16 = some ⟨oc16, od16, .func (PySem.W.fnOf "_law_first_free" "_law_first_free" (defArgs s__law_first_free) (defBody s__law_first_free) (defScope s__law_first_free) .none kV16 dc16 pm16 an16 cd16 ct16), sl16⟩)
    (c16 : PySem.W.codeIn K cd16 "_law_first_free" = true)
    (k16 : PySem.W.keepIn K (.ref f16) = true)
    (a17 : PySem.W.findIn K (.ref C_Shape) "addresses" = some (some (.ref f17)))
    (fn17 : PySem.W.isFn K (.ref f17) = true)
    (l17 : K.lookup f17 = some ⟨oc17, od17, .func (PySem.W.fnOf "addresses" "Shape.addresses" (defArgs s_Shape_addresses) (defBody s_Shape_addresses) (defScope s_Shape_addresses) .none kV17 dc17 pm17 an17 cd17 ct17), sl17⟩)
    (c17 : PySem.W.codeIn K cd17 "Shape.addresses" = true)
    (k17 : PySem.W.keepIn K (.ref f17) = true)
    (a18 : PySem.W.findIn K (.ref C_Table) "put" = some (some (.ref f18)))
    (fn18 : PySem.W.isFn K (.ref f18) = true)
    (l18 : K.lookup f18 = some ⟨oc18, od18, .func (PySem.W.fnOf "put" "Table.put" (defArgs s_Table_put) (defBody s_Table_put) (defScope s_Table_put) .none kV18 dc18 pm18 an18 cd18 ct18), sl18⟩)
    (c18 : PySem.W.codeIn K cd18 "Table.put" = true)
    (k18 : PySem.W.keepIn K (.ref f18) = true)
    (a19 : PySem.W.findIn K (.ref C_Table) "row_at" = some (some (.ref f19)))
    (fn19 : PySem.W.isFn K (.ref f19) = true)
    (l19 : K.lookup f19 = some ⟨oc19, od19, .func (PySem.W.fnOf "row_at" "Table.row_at" (defArgs s_Table_row_at) (defBody s_Table_row_at) (defScope s_Table_row_at) .none kV19 dc19 pm19 an19 cd19 ct19), sl19⟩)
    (c19 : PySem.W.codeIn K cd19 "Table.row_at" = true)
    (k19 : PySem.W.keepIn K (.ref f19) = true)
    (a20 : PySem.W.nsIn K mainGlobals "_law_put_right" = some (some (.ref f20)))
    (l20 : K.lookup f20 = some ⟨oc20, od20, .func (PySem.W.fnOf "_law_put_right" "_law_put_right" (defArgs s__law_put_right) (defBody s__law_put_right) (defScope s__law_put_right) .none kV20 dc20 pm20 an20 cd20 ct20), sl20⟩)
    (c20 : PySem.W.codeIn K cd20 "_law_put_right" = true)
    (k20 : PySem.W.keepIn K (.ref f20) = true)
    (a21 : PySem.W.findIn K (.ref C_Table) "__init__" = some (some (.ref f21)))
    (fn21 : PySem.W.isFn K (.ref f21) = true)
    (l21 : K.lookup f21 = some ⟨oc21, od21, .func (PySem.W.fnOf "__init__" "Table.__init__" (defArgs s_Table_init) (defBody s_Table_init) (defScope s_Table_init) .none kV21 dc21 pm21 an21 cd21 ct21), sl21⟩)
    (c21 : PySem.W.codeIn K cd21 "Table.__init__" = true)
    (k21 : PySem.W.keepIn K (.ref f21) = true)
    (a22 : PySem.W.findIn K (.ref C_Shape) "__init__" = some (some (.ref f22)))
    (fn22 : PySem.W.isFn K (.ref f22) = true)
    (l22 : K.lookup f22 = some ⟨oc22, od22, .func (PySem.W.fnOf "__init__" "Shape.__init__" (defArgs s_Shape_init) (defBody s_Shape_init) (defScope s_Shape_init) .none (.ref kd22) dc22 pm22 an22 cd22 ct22), sl22⟩)
    (kn22_0 : PySem.W.nsIn K kd22 "chunk" = some (some (.int (4) kt22_0)))
    (kn22_1 : PySem.W.nsIn K kd22 "columns" = some (some (.int (2) kt22_1)))
    (c22 : PySem.W.codeIn K cd22 "Shape.__init__" = true)
    (k22 : PySem.W.keepIn K (.ref f22) = true)
    (a23 : PySem.W.findIn K (.ref C_Table) "take" = some (some (.ref f23)))
    (fn23 : PySem.W.isFn K (.ref f23) = true)
    (l23 : K.lookup f23 = some ⟨oc23, od23, .func (PySem.W.fnOf "take" "Table.take" (defArgs s_Table_take) (defBody s_Table_take) (defScope s_Table_take) .none kV23 dc23 pm23 an23 cd23 ct23), sl23⟩)
    (c23 : PySem.W.codeIn K cd23 "Table.take" = true)
    (k23 : PySem.W.keepIn K (.ref f23) = true)
    (pa24 : PySem.W.findIn K (.ref C_Table) "used" = some (some (.ref pp24)))
    (a24 : PySem.W.recIn K pp24 "property" = some (.ref f24 :: rs24))
    (pg24 : PySem.W.specialIn K (.ref pp24) "__get__" = some (some (.builtin "property.__get__")))
    (pt24 : PySem.W.takesIn K (.ref pp24) = some true)
    (l24 : K.lookup f24 = some ⟨oc24, od24, .func (PySem.W.fnOf "used" "Table.used" (defArgs s_Table_used) (defBody s_Table_used) (defScope s_Table_used) .none kV24 dc24 pm24 an24 cd24 ct24), sl24⟩)
    (c24 : PySem.W.codeIn K cd24 "Table.used" = true)
    (k24 : PySem.W.keepIn K (.ref f24) = true)
    (a25 : PySem.W.nsIn K mainGlobals "law" = some (some (.ref f25)))
    (l25 : K.lookup f25 = some ⟨oc25, od25, .func (PySem.W.fnOf "law" "law" (defArgs s_law) (defBody s_law) (defScope s_law) .none kV25 dc25 pm25 an25 cd25 ct25), sl25⟩)
    (c25 : PySem.W.codeIn K cd25 "law" = true)
    (k25 : PySem.W.keepIn K (.ref f25) = true)
    (g_GREATEST : PySem.W.nsIn K mainGlobals "GREATEST" = some (some (.int (1000000000000000000) t_GREATEST)))
    (z_abs : PySem.W.nsIn K mainGlobals "abs" = some none)
    (z_bool : PySem.W.nsIn K mainGlobals "bool" = some none)
    (z_int : PySem.W.nsIn K mainGlobals "int" = some none)
    (z_isinstance : PySem.W.nsIn K mainGlobals "isinstance" = some none)
    (z_len : PySem.W.nsIn K mainGlobals "len" = some none)
    (z_list : PySem.W.nsIn K mainGlobals "list" = some none)
    (z_range : PySem.W.nsIn K mainGlobals "range" = some none)
    (z_str : PySem.W.nsIn K mainGlobals "str" = some none)
    (z_tuple : PySem.W.nsIn K mainGlobals "tuple" = some none) :
    ∃ fd : FuncData, (∀ (s : Shared) (v : Value), BindsTo s fd ⟨[v], []⟩ [("_law_script", v)]) ∧ ∀ base : Heap, K.In base → base.Ns mainGlobals mg → FnOk l.prog w K mg base CX0 6 fa fd ["_law_script"] (spLaw K) := by
  have e := hfa.symm.trans (PySem.W.mg_of X G a25)
  cases e
  have F0 := fun_mk (st := s_NoPlace_init) l0 c0 k0
  have b0 := F0.binds (ps := ["self", "place"]) fun _ _ _ _ _ _ us hl => match us, hl with | [_, _], _ => rfl
  have F1 := fun_mk (st := s_BadRow_init) l1 c1 k1
  have b1 := F1.binds (ps := ["self", "row"]) fun _ _ _ _ _ _ us hl => match us, hl with | [_, _], _ => rfl
  have F2 := fun_mk (st := s_SlotTaken_init) l2 c2 k2
  have b2 := F2.binds (ps := ["self", "address"]) fun _ _ _ _ _ _ us hl => match us, hl with | [_, _], _ => rfl
  have F3 := fun_mk (st := s_EmptySlot_init) l3 c3 k3
  have b3 := F3.binds (ps := ["self", "address"]) fun _ _ _ _ _ _ us hl => match us, hl with | [_, _], _ => rfl
  have F4 := fun_mk (st := s_is_between) l4 c4 k4
  have b4 := F4.binds (ps := ["value", "low", "high"]) fun _ _ _ _ _ _ us hl => match us, hl with | [_, _, _], _ => rfl
  have F5 := fun_mk (st := s_check_extent) l5 c5 k5
  have b5 := F5.binds (ps := ["value", "most"]) fun _ _ _ _ _ _ us hl => match us, hl with | [_, _], _ => rfl
  have F6 := fun_mk (st := s_Shape_contains) l6 c6 k6
  have b6 := F6.binds (ps := ["self", "address"]) fun _ _ _ _ _ _ us hl => match us, hl with | [_, _], _ => rfl
  have F7 := fun_mk (st := s_check_address) l7 c7 k7
  have b7 := F7.binds (ps := ["address", "shape"]) fun _ _ _ _ _ _ us hl => match us, hl with | [_, _], _ => rfl
  have F8 := fun_mk (st := s_check_row) l8 c8 k8
  have b8 := F8.binds (ps := ["row", "columns"]) fun _ _ _ _ _ _ us hl => match us, hl with | [_, _], _ => rfl
  have F9 := fun_mk (st := s__law_stream) l9 c9 k9
  have b9 := F9.binds (ps := ["_law_script"]) fun _ _ _ _ _ _ us hl => match us, hl with | [_], _ => rfl
  have F10 := fun_mk (st := s__law_draw) l10 c10 k10
  have b10 := F10.binds (ps := ["_law_stream_here", "_law_many"]) fun _ _ _ _ _ _ us hl => match us, hl with | [_, _], _ => rfl
  have F11 := fun_mk (st := s__law_number) l11 c11 k11
  have b11 := F11.binds (ps := ["_law_stream_here", "_law_most"]) fun _ _ _ _ _ _ us hl => match us, hl with | [_, _], _ => rfl
  have F12 := fun_mk (st := s__law_pool) l12 c12 k12
  have b12 := F12.binds (ps := ["_law_stream_here", "_law_wide"]) fun _ _ _ _ _ _ us hl => match us, hl with | [_, _], _ => rfl
  have F13 := fun_mk (st := s__law_row) l13 c13 k13
  have b13 := F13.binds (ps := ["_law_stream_here", "_law_pool_here"]) fun _ _ _ _ _ _ us hl => match us, hl with | [_, _], _ => rfl
  have F14 := fun_mk (st := s__law_sizes) l14 c14 k14
  have b14 := F14.binds (ps := ["_law_stream_here", "_law_pages", "_law_slots"]) fun _ _ _ _ _ _ us hl => match us, hl with | [_, _, _], _ => rfl
  have F15 := fun_mk (st := s__law_alike) l15 c15 k15
  have b15 := F15.binds (ps := ["_law_told", "_law_due"]) fun _ _ _ _ _ _ us hl => match us, hl with | [_, _], _ => rfl
  have F16 := fun_mk (st := s__law_first_free) l16 c16 k16
  have b16 := F16.binds (ps := ["_law_rows"]) fun _ _ _ _ _ _ us hl => match us, hl with | [_], _ => rfl
  have F17 := fun_mk (st := s_Shape_addresses) l17 c17 k17
  have b17 := F17.binds (ps := ["self"]) fun _ _ _ _ _ _ us hl => match us, hl with | [_], _ => rfl
  have F18 := fun_mk (st := s_Table_put) l18 c18 k18
  have b18 := F18.binds (ps := ["self", "row"]) fun _ _ _ _ _ _ us hl => match us, hl with | [_, _], _ => rfl
  have F19 := fun_mk (st := s_Table_row_at) l19 c19 k19
  have b19 := F19.binds (ps := ["self", "address"]) fun _ _ _ _ _ _ us hl => match us, hl with | [_, _], _ => rfl
  have F20 := fun_mk (st := s__law_put_right) l20 c20 k20
  have b20 := F20.binds (ps := ["_law_stream_here", "_law_pool_here", "_law_table", "_law_rows", "_law_slots"]) fun _ _ _ _ _ _ us hl => match us, hl with | [_, _, _, _, _], _ => rfl
  have F21 := fun_mk (st := s_Table_init) l21 c21 k21
  have b21 := F21.binds (ps := ["self", "shape"]) fun _ _ _ _ _ _ us hl => match us, hl with | [_, _], _ => rfl
  have F22 : FunD K "__init__" "Shape.__init__" (defArgs s_Shape_init) (defBody s_Shape_init) (defScope s_Shape_init) [] [("chunk", .int (4)), ("columns", .int (2))] f22 _ := ⟨⟨_, _, _, _, _, _, _, _, _, _, rfl, l22, c22, .inl ⟨rfl, rfl⟩, .inr ⟨_, rfl, by
      intro q hq
      simp only [List.mem_cons, List.not_mem_nil, or_false] at hq
      rcases hq with hq | hq
      · subst hq; exact ⟨_, kn22_0, ⟨_, rfl⟩⟩
      · subst hq; exact ⟨_, kn22_1, ⟨_, rfl⟩⟩⟩⟩, k22⟩
  have F23 := fun_mk (st := s_Table_take) l23 c23 k23
  have b23 := F23.binds (ps := ["self", "address"]) fun _ _ _ _ _ _ us hl => match us, hl with | [_, _], _ => rfl
  have F24 := fun_mk (st := s_Table_used) l24 c24 k24
  have b24 := F24.binds (ps := ["self"]) fun _ _ _ _ _ _ us hl => match us, hl with | [_], _ => rfl
  have F25 := fun_mk (st := s_law) l25 c25 k25
  have T : Txt K mg := { a_NoPlace_init := _, d_NoPlace_init := _, F_NoPlace_init := F0, b_NoPlace_init := b0, iC_NoPlace := a0, tI_NoPlace := t0, no_NoPlace := no_NoPlace, oc_NoPlace := { cls := ⟨_, _, _, _, _, _, _, _, _, _, _, _, _, _, _, xL_NoPlace, by rfl⟩, sa := sa_NoPlace, exC := sub_NoPlace, tyC := cT_NoPlace, kC := kC_NoPlace }, a_BadRow_init := _, d_BadRow_init := _, F_BadRow_init := F1, b_BadRow_init := b1, iC_BadRow := a1, tI_BadRow := t1, no_BadRow := no_BadRow, oc_BadRow := { cls := ⟨_, _, _, _, _, _, _, _, _, _, _, _, _, _, _, xL_BadRow, by rfl⟩, sa := sa_BadRow, exC := sub_BadRow, tyC := cT_BadRow, kC := kC_BadRow }, a_SlotTaken_init := _, d_SlotTaken_init := _, F_SlotTaken_init := F2, b_SlotTaken_init := b2, iC_SlotTaken := a2, tI_SlotTaken := t2, no_SlotTaken := no_SlotTaken, oc_SlotTaken := { cls := ⟨_, _, _, _, _, _, _, _, _, _, _, _, _, _, _, xL_SlotTaken, by rfl⟩, sa := sa_SlotTaken, exC := sub_SlotTaken, tyC := cT_SlotTaken, kC := kC_SlotTaken }, a_EmptySlot_init := _, d_EmptySlot_init := _, F_EmptySlot_init := F3, b_EmptySlot_init := b3, iC_EmptySlot := a3, tI_EmptySlot := t3, no_EmptySlot := no_EmptySlot, oc_EmptySlot := { cls := ⟨_, _, _, _, _, _, _, _, _, _, _, _, _, _, _, xL_EmptySlot, by rfl⟩, sa := sa_EmptySlot, exC := sub_EmptySlot, tyC := cT_EmptySlot, kC := kC_EmptySlot }, a_is_between := _, d_is_between := _, F_is_between := F4, b_is_between := b4, g_is_between := PySem.W.mg_of X G a4, a_check_extent := _, d_check_extent := _, F_check_extent := F5, b_check_extent := b5, g_check_extent := PySem.W.mg_of X G a5, a_Shape_contains := _, d_Shape_contains := _, F_Shape_contains := F6, b_Shape_contains := b6, me_Shape_contains := ⟨a6, fn6, k6⟩, a_check_address := _, d_check_address := _, F_check_address := F7, b_check_address := b7, g_check_address := PySem.W.mg_of X G a7, a_check_row := _, d_check_row := _, F_check_row := F8, b_check_row := b8, g_check_row := PySem.W.mg_of X G a8, a_stream := _, d_stream := _, F_stream := F9, b_stream := b9, g_stream := PySem.W.mg_of X G a9, a_draw := _, d_draw := _, F_draw := F10, b_draw := b10, g_draw := PySem.W.mg_of X G a10, a_number := _, d_number := _, F_number := F11, b_number := b11, g_number := PySem.W.mg_of X G a11, a_pool := _, d_pool := _, F_pool := F12, b_pool := b12, g_pool := PySem.W.mg_of X G a12, a_row := _, d_row := _, F_row := F13, b_row := b13, g_row := PySem.W.mg_of X G a13, a_sizes := _, d_sizes := _, F_sizes := F14, b_sizes := b14, g_sizes := PySem.W.mg_of X G a14, a_alike := _, d_alike := _, F_alike := F15, b_alike := b15, g_alike := PySem.W.mg_of X G a15, a_first_free := _, d_first_free := _, F_first_free := F16, b_first_free := b16, g_first_free := PySem.W.mg_of X G a16, a_Shape_addresses := _, d_Shape_addresses := _, F_Shape_addresses := F17, b_Shape_addresses := b17, me_Shape_addresses := ⟨a17, fn17, k17⟩, a_Table_put := _, d_Table_put := _, F_Table_put := F18, b_Table_put := b18, me_Table_put := ⟨a18, fn18, k18⟩, a_Table_row_at := _, d_Table_row_at := _, F_Table_row_at := F19, b_Table_row_at := b19, me_Table_row_at := ⟨a19, fn19, k19⟩, a_put_right := _, d_put_right := _, F_put_right := F20, b_put_right := b20, g_put_right := PySem.W.mg_of X G a20, a_Table_init := _, d_Table_init := _, F_Table_init := F21, b_Table_init := b21, mk_Table := ⟨mkc_Table, a21, fn21, kpc_Table⟩, a_Shape_init := _, d_Shape_init := _, F_Shape_init := F22, mk_Shape := ⟨mkc_Shape, a22, fn22, kpc_Shape⟩, a_Table_take := _, d_Table_take := _, F_Table_take := F23, b_Table_take := b23, me_Table_take := ⟨a23, fn23, k23⟩, a_Table_used := _, d_Table_used := _, F_Table_used := F24, b_Table_used := b24, pp_Table_used := _, pa_Table_used := pa24, pg_Table_used := pg24, pt_Table_used := pt24, pr_Table_used := ⟨_, a24⟩, C_Shape := _, g_Shape := PySem.W.mg_of X G gC_Shape, sC_Shape := ⟨pgc_Shape, icc_Shape, poc_Shape, sac_Shape⟩, kC_Shape := kpc_Shape, pS_Shape_chunk := _, sl_Shape_chunk := ⟨s1_Shape_chunk, s2_Shape_chunk, s3_Shape_chunk, s4_Shape_chunk, s5_Shape_chunk, by decide⟩, pS_Shape_columns := _, sl_Shape_columns := ⟨s1_Shape_columns, s2_Shape_columns, s3_Shape_columns, s4_Shape_columns, s5_Shape_columns, by decide⟩, pS_Shape_pages := _, sl_Shape_pages := ⟨s1_Shape_pages, s2_Shape_pages, s3_Shape_pages, s4_Shape_pages, s5_Shape_pages, by decide⟩, pS_Shape_slots := _, sl_Shape_slots := ⟨s1_Shape_slots, s2_Shape_slots, s3_Shape_slots, s4_Shape_slots, s5_Shape_slots, by decide⟩, cr_Shape := ⟨rdc_Shape, sgc_Shape⟩, cu_Shape_MOST_PAGES := _, cv_Shape_MOST_PAGES := ⟨cv_Shape_MOST_PAGES, ⟨_, rfl⟩⟩, cu_Shape_MOST_SLOTS := _, cv_Shape_MOST_SLOTS := ⟨cv_Shape_MOST_SLOTS, ⟨_, rfl⟩⟩, cu_Shape_MOST_CHUNK := _, cv_Shape_MOST_CHUNK := ⟨cv_Shape_MOST_CHUNK, ⟨_, rfl⟩⟩, cu_Shape_MOST_COLUMNS := _, cv_Shape_MOST_COLUMNS := ⟨cv_Shape_MOST_COLUMNS, ⟨_, rfl⟩⟩, C_Table := _, g_Table := PySem.W.mg_of X G gC_Table, sC_Table := ⟨pgc_Table, icc_Table, poc_Table, sac_Table⟩, kC_Table := kpc_Table, hc_Table := ⟨pgc_Table, hdi_Table, poc_Table, sac_Table⟩, nf_Table_shape := nf_Table_shape, nf_Table__rows := nf_Table__rows, C_PagesError := _, g_PagesError := PySem.W.mg_of X G gC_PagesError, cB_PagesError := sub_PagesError, cT_PagesError := cT_PagesError, kC_PagesError := kC_PagesError, is_PagesError := { c := cI_PagesError, ga := ga_PagesError, gt := gt_PagesError, sub := sub_PagesError, kc := kc_PagesError, kg := kgC, kt := ktC, ob := ob_PagesError }, xf_PagesError := ⟨ga_PagesError, gt_PagesError, sub_PagesError, hd_PagesError⟩, ie_PagesError := ⟨ga_PagesError, gt_PagesError, sub_PagesError, hd_PagesError, kc_PagesError, kgC, ktC, ob_PagesError⟩, kv_PagesError := kit_val sv_PagesError, xF_PagesError := xF_PagesError, ga_PagesError := sg_PagesError, rd_PagesError := rd_PagesError, vV_PagesError := vV_PagesError, kit_PagesError_PagesError := kit_own cI_PagesError cT_PagesError su_PagesError_PagesError (.inl rfl), te_PagesError_PagesError := exm_own sub_PagesError cI_PagesError cT_PagesError su_PagesError_PagesError, kit_PagesError_BadShape := kit_own cI_BadShape cT_BadShape su_PagesError_BadShape (.inr fun z => by rw [← z, su_PagesError_PagesError] at su_PagesError_BadShape; cases su_PagesError_BadShape), te_PagesError_BadShape := exm_own sub_BadShape cI_BadShape cT_BadShape su_PagesError_BadShape, kit_PagesError_TableFull := kit_own cI_TableFull cT_TableFull su_PagesError_TableFull (.inr fun z => by rw [← z, su_PagesError_PagesError] at su_PagesError_TableFull; cases su_PagesError_TableFull), te_PagesError_TableFull := exm_own sub_TableFull cI_TableFull cT_TableFull su_PagesError_TableFull, kit_PagesError_NoPlace := kit_own cI_NoPlace cT_NoPlace su_PagesError_NoPlace (.inr fun z => by rw [← z, su_PagesError_PagesError] at su_PagesError_NoPlace; cases su_PagesError_NoPlace), te_PagesError_NoPlace := exm_own sub_NoPlace cI_NoPlace cT_NoPlace su_PagesError_NoPlace, kit_PagesError_BadRow := kit_own cI_BadRow cT_BadRow su_PagesError_BadRow (.inr fun z => by rw [← z, su_PagesError_PagesError] at su_PagesError_BadRow; cases su_PagesError_BadRow), te_PagesError_BadRow := exm_own sub_BadRow cI_BadRow cT_BadRow su_PagesError_BadRow, kit_PagesError_SlotTaken := kit_own cI_SlotTaken cT_SlotTaken su_PagesError_SlotTaken (.inr fun z => by rw [← z, su_PagesError_PagesError] at su_PagesError_SlotTaken; cases su_PagesError_SlotTaken), te_PagesError_SlotTaken := exm_own sub_SlotTaken cI_SlotTaken cT_SlotTaken su_PagesError_SlotTaken, kit_PagesError_EmptySlot := kit_own cI_EmptySlot cT_EmptySlot su_PagesError_EmptySlot (.inr fun z => by rw [← z, su_PagesError_PagesError] at su_PagesError_EmptySlot; cases su_PagesError_EmptySlot), te_PagesError_EmptySlot := exm_own sub_EmptySlot cI_EmptySlot cT_EmptySlot su_PagesError_EmptySlot, C_BadShape := _, g_BadShape := PySem.W.mg_of X G gC_BadShape, cB_BadShape := sub_BadShape, cT_BadShape := cT_BadShape, kC_BadShape := kC_BadShape, is_BadShape := { c := cI_BadShape, ga := ga_BadShape, gt := gt_BadShape, sub := sub_BadShape, kc := kc_BadShape, kg := kgC, kt := ktC, ob := ob_BadShape }, xf_BadShape := ⟨ga_BadShape, gt_BadShape, sub_BadShape, hd_BadShape⟩, ie_BadShape := ⟨ga_BadShape, gt_BadShape, sub_BadShape, hd_BadShape, kc_BadShape, kgC, ktC, ob_BadShape⟩, kv_BadShape := kit_val sv_BadShape, xF_BadShape := xF_BadShape, ga_BadShape := sg_BadShape, rd_BadShape := rd_BadShape, vV_BadShape := vV_BadShape, kit_BadShape_PagesError := kit_own cI_PagesError cT_PagesError su_BadShape_PagesError (.inl rfl), te_BadShape_PagesError := exm_own sub_PagesError cI_PagesError cT_PagesError su_BadShape_PagesError, kit_BadShape_BadShape := kit_own cI_BadShape cT_BadShape su_BadShape_BadShape (.inl rfl), te_BadShape_BadShape := exm_own sub_BadShape cI_BadShape cT_BadShape su_BadShape_BadShape, kit_BadShape_TableFull := kit_own cI_TableFull cT_TableFull su_BadShape_TableFull (.inr fun z => by rw [← z, su_BadShape_BadShape] at su_BadShape_TableFull; cases su_BadShape_TableFull), te_BadShape_TableFull := exm_own sub_TableFull cI_TableFull cT_TableFull su_BadShape_TableFull, kit_BadShape_NoPlace := kit_own cI_NoPlace cT_NoPlace su_BadShape_NoPlace (.inr fun z => by rw [← z, su_BadShape_BadShape] at su_BadShape_NoPlace; cases su_BadShape_NoPlace), te_BadShape_NoPlace := exm_own sub_NoPlace cI_NoPlace cT_NoPlace su_BadShape_NoPlace, kit_BadShape_BadRow := kit_own cI_BadRow cT_BadRow su_BadShape_BadRow (.inr fun z => by rw [← z, su_BadShape_BadShape] at su_BadShape_BadRow; cases su_BadShape_BadRow), te_BadShape_BadRow := exm_own sub_BadRow cI_BadRow cT_BadRow su_BadShape_BadRow, kit_BadShape_SlotTaken := kit_own cI_SlotTaken cT_SlotTaken su_BadShape_SlotTaken (.inr fun z => by rw [← z, su_BadShape_BadShape] at su_BadShape_SlotTaken; cases su_BadShape_SlotTaken), te_BadShape_SlotTaken := exm_own sub_SlotTaken cI_SlotTaken cT_SlotTaken su_BadShape_SlotTaken, kit_BadShape_EmptySlot := kit_own cI_EmptySlot cT_EmptySlot su_BadShape_EmptySlot (.inr fun z => by rw [← z, su_BadShape_BadShape] at su_BadShape_EmptySlot; cases su_BadShape_EmptySlot), te_BadShape_EmptySlot := exm_own sub_EmptySlot cI_EmptySlot cT_EmptySlot su_BadShape_EmptySlot, C_TableFull := _, g_TableFull := PySem.W.mg_of X G gC_TableFull, cB_TableFull := sub_TableFull, cT_TableFull := cT_TableFull, kC_TableFull := kC_TableFull, is_TableFull := { c := cI_TableFull, ga := ga_TableFull, gt := gt_TableFull, sub := sub_TableFull, kc := kc_TableFull, kg := kgC, kt := ktC, ob := ob_TableFull }, xf_TableFull := ⟨ga_TableFull, gt_TableFull, sub_TableFull, hd_TableFull⟩, ie_TableFull := ⟨ga_TableFull, gt_TableFull, sub_TableFull, hd_TableFull, kc_TableFull, kgC, ktC, ob_TableFull⟩, kv_TableFull := kit_val sv_TableFull, xF_TableFull := xF_TableFull, ga_TableFull := sg_TableFull, rd_TableFull := rd_TableFull, vV_TableFull := vV_TableFull, kit_TableFull_PagesError := kit_own cI_PagesError cT_PagesError su_TableFull_PagesError (.inl rfl), te_TableFull_PagesError := exm_own sub_PagesError cI_PagesError cT_PagesError su_TableFull_PagesError, kit_TableFull_BadShape := kit_own cI_BadShape cT_BadShape su_TableFull_BadShape (.inr fun z => by rw [← z, su_TableFull_TableFull] at su_TableFull_BadShape; cases su_TableFull_BadShape), te_TableFull_BadShape := exm_own sub_BadShape cI_BadShape cT_BadShape su_TableFull_BadShape, kit_TableFull_TableFull := kit_own cI_TableFull cT_TableFull su_TableFull_TableFull (.inl rfl), te_TableFull_TableFull := exm_own sub_TableFull cI_TableFull cT_TableFull su_TableFull_TableFull, kit_TableFull_NoPlace := kit_own cI_NoPlace cT_NoPlace su_TableFull_NoPlace (.inr fun z => by rw [← z, su_TableFull_TableFull] at su_TableFull_NoPlace; cases su_TableFull_NoPlace), te_TableFull_NoPlace := exm_own sub_NoPlace cI_NoPlace cT_NoPlace su_TableFull_NoPlace, kit_TableFull_BadRow := kit_own cI_BadRow cT_BadRow su_TableFull_BadRow (.inr fun z => by rw [← z, su_TableFull_TableFull] at su_TableFull_BadRow; cases su_TableFull_BadRow), te_TableFull_BadRow := exm_own sub_BadRow cI_BadRow cT_BadRow su_TableFull_BadRow, kit_TableFull_SlotTaken := kit_own cI_SlotTaken cT_SlotTaken su_TableFull_SlotTaken (.inr fun z => by rw [← z, su_TableFull_TableFull] at su_TableFull_SlotTaken; cases su_TableFull_SlotTaken), te_TableFull_SlotTaken := exm_own sub_SlotTaken cI_SlotTaken cT_SlotTaken su_TableFull_SlotTaken, kit_TableFull_EmptySlot := kit_own cI_EmptySlot cT_EmptySlot su_TableFull_EmptySlot (.inr fun z => by rw [← z, su_TableFull_TableFull] at su_TableFull_EmptySlot; cases su_TableFull_EmptySlot), te_TableFull_EmptySlot := exm_own sub_EmptySlot cI_EmptySlot cT_EmptySlot su_TableFull_EmptySlot, C_NoPlace := _, g_NoPlace := PySem.W.mg_of X G gC_NoPlace, cB_NoPlace := sub_NoPlace, cT_NoPlace := cT_NoPlace, kC_NoPlace := kC_NoPlace, is_NoPlace := { c := cI_NoPlace, ga := ga_NoPlace, gt := gt_NoPlace, sub := sub_NoPlace, kc := kc_NoPlace, kg := kgC, kt := ktC, ob := ob_NoPlace }, xf_NoPlace := ⟨ga_NoPlace, gt_NoPlace, sub_NoPlace, hd_NoPlace⟩, kit_NoPlace_PagesError := kit_own cI_PagesError cT_PagesError su_NoPlace_PagesError (.inl rfl), te_NoPlace_PagesError := exm_own sub_PagesError cI_PagesError cT_PagesError su_NoPlace_PagesError, kit_NoPlace_BadShape := kit_own cI_BadShape cT_BadShape su_NoPlace_BadShape (.inr fun z => by rw [← z, su_NoPlace_NoPlace] at su_NoPlace_BadShape; cases su_NoPlace_BadShape), te_NoPlace_BadShape := exm_own sub_BadShape cI_BadShape cT_BadShape su_NoPlace_BadShape, kit_NoPlace_TableFull := kit_own cI_TableFull cT_TableFull su_NoPlace_TableFull (.inr fun z => by rw [← z, su_NoPlace_NoPlace] at su_NoPlace_TableFull; cases su_NoPlace_TableFull), te_NoPlace_TableFull := exm_own sub_TableFull cI_TableFull cT_TableFull su_NoPlace_TableFull, kit_NoPlace_NoPlace := kit_own cI_NoPlace cT_NoPlace su_NoPlace_NoPlace (.inl rfl), te_NoPlace_NoPlace := exm_own sub_NoPlace cI_NoPlace cT_NoPlace su_NoPlace_NoPlace, kit_NoPlace_BadRow := kit_own cI_BadRow cT_BadRow su_NoPlace_BadRow (.inr fun z => by rw [← z, su_NoPlace_NoPlace] at su_NoPlace_BadRow; cases su_NoPlace_BadRow), te_NoPlace_BadRow := exm_own sub_BadRow cI_BadRow cT_BadRow su_NoPlace_BadRow, kit_NoPlace_SlotTaken := kit_own cI_SlotTaken cT_SlotTaken su_NoPlace_SlotTaken (.inr fun z => by rw [← z, su_NoPlace_NoPlace] at su_NoPlace_SlotTaken; cases su_NoPlace_SlotTaken), te_NoPlace_SlotTaken := exm_own sub_SlotTaken cI_SlotTaken cT_SlotTaken su_NoPlace_SlotTaken, kit_NoPlace_EmptySlot := kit_own cI_EmptySlot cT_EmptySlot su_NoPlace_EmptySlot (.inr fun z => by rw [← z, su_NoPlace_NoPlace] at su_NoPlace_EmptySlot; cases su_NoPlace_EmptySlot), te_NoPlace_EmptySlot := exm_own sub_EmptySlot cI_EmptySlot cT_EmptySlot su_NoPlace_EmptySlot, C_BadRow := _, g_BadRow := PySem.W.mg_of X G gC_BadRow, cB_BadRow := sub_BadRow, cT_BadRow := cT_BadRow, kC_BadRow := kC_BadRow, is_BadRow := { c := cI_BadRow, ga := ga_BadRow, gt := gt_BadRow, sub := sub_BadRow, kc := kc_BadRow, kg := kgC, kt := ktC, ob := ob_BadRow }, xf_BadRow := ⟨ga_BadRow, gt_BadRow, sub_BadRow, hd_BadRow⟩, kit_BadRow_PagesError := kit_own cI_PagesError cT_PagesError su_BadRow_PagesError (.inl rfl), te_BadRow_PagesError := exm_own sub_PagesError cI_PagesError cT_PagesError su_BadRow_PagesError, kit_BadRow_BadShape := kit_own cI_BadShape cT_BadShape su_BadRow_BadShape (.inr fun z => by rw [← z, su_BadRow_BadRow] at su_BadRow_BadShape; cases su_BadRow_BadShape), te_BadRow_BadShape := exm_own sub_BadShape cI_BadShape cT_BadShape su_BadRow_BadShape, kit_BadRow_TableFull := kit_own cI_TableFull cT_TableFull su_BadRow_TableFull (.inr fun z => by rw [← z, su_BadRow_BadRow] at su_BadRow_TableFull; cases su_BadRow_TableFull), te_BadRow_TableFull := exm_own sub_TableFull cI_TableFull cT_TableFull su_BadRow_TableFull, kit_BadRow_NoPlace := kit_own cI_NoPlace cT_NoPlace su_BadRow_NoPlace (.inr fun z => by rw [← z, su_BadRow_BadRow] at su_BadRow_NoPlace; cases su_BadRow_NoPlace), te_BadRow_NoPlace := exm_own sub_NoPlace cI_NoPlace cT_NoPlace su_BadRow_NoPlace, kit_BadRow_BadRow := kit_own cI_BadRow cT_BadRow su_BadRow_BadRow (.inl rfl), te_BadRow_BadRow := exm_own sub_BadRow cI_BadRow cT_BadRow su_BadRow_BadRow, kit_BadRow_SlotTaken := kit_own cI_SlotTaken cT_SlotTaken su_BadRow_SlotTaken (.inr fun z => by rw [← z, su_BadRow_BadRow] at su_BadRow_SlotTaken; cases su_BadRow_SlotTaken), te_BadRow_SlotTaken := exm_own sub_SlotTaken cI_SlotTaken cT_SlotTaken su_BadRow_SlotTaken, kit_BadRow_EmptySlot := kit_own cI_EmptySlot cT_EmptySlot su_BadRow_EmptySlot (.inr fun z => by rw [← z, su_BadRow_BadRow] at su_BadRow_EmptySlot; cases su_BadRow_EmptySlot), te_BadRow_EmptySlot := exm_own sub_EmptySlot cI_EmptySlot cT_EmptySlot su_BadRow_EmptySlot, C_SlotTaken := _, g_SlotTaken := PySem.W.mg_of X G gC_SlotTaken, cB_SlotTaken := sub_SlotTaken, cT_SlotTaken := cT_SlotTaken, kC_SlotTaken := kC_SlotTaken, is_SlotTaken := { c := cI_SlotTaken, ga := ga_SlotTaken, gt := gt_SlotTaken, sub := sub_SlotTaken, kc := kc_SlotTaken, kg := kgC, kt := ktC, ob := ob_SlotTaken }, xf_SlotTaken := ⟨ga_SlotTaken, gt_SlotTaken, sub_SlotTaken, hd_SlotTaken⟩, kit_SlotTaken_PagesError := kit_own cI_PagesError cT_PagesError su_SlotTaken_PagesError (.inl rfl), te_SlotTaken_PagesError := exm_own sub_PagesError cI_PagesError cT_PagesError su_SlotTaken_PagesError, kit_SlotTaken_BadShape := kit_own cI_BadShape cT_BadShape su_SlotTaken_BadShape (.inr fun z => by rw [← z, su_SlotTaken_SlotTaken] at su_SlotTaken_BadShape; cases su_SlotTaken_BadShape), te_SlotTaken_BadShape := exm_own sub_BadShape cI_BadShape cT_BadShape su_SlotTaken_BadShape, kit_SlotTaken_TableFull := kit_own cI_TableFull cT_TableFull su_SlotTaken_TableFull (.inr fun z => by rw [← z, su_SlotTaken_SlotTaken] at su_SlotTaken_TableFull; cases su_SlotTaken_TableFull), te_SlotTaken_TableFull := exm_own sub_TableFull cI_TableFull cT_TableFull su_SlotTaken_TableFull, kit_SlotTaken_NoPlace := kit_own cI_NoPlace cT_NoPlace su_SlotTaken_NoPlace (.inr fun z => by rw [← z, su_SlotTaken_SlotTaken] at su_SlotTaken_NoPlace; cases su_SlotTaken_NoPlace), te_SlotTaken_NoPlace := exm_own sub_NoPlace cI_NoPlace cT_NoPlace su_SlotTaken_NoPlace, kit_SlotTaken_BadRow := kit_own cI_BadRow cT_BadRow su_SlotTaken_BadRow (.inr fun z => by rw [← z, su_SlotTaken_SlotTaken] at su_SlotTaken_BadRow; cases su_SlotTaken_BadRow), te_SlotTaken_BadRow := exm_own sub_BadRow cI_BadRow cT_BadRow su_SlotTaken_BadRow, kit_SlotTaken_SlotTaken := kit_own cI_SlotTaken cT_SlotTaken su_SlotTaken_SlotTaken (.inl rfl), te_SlotTaken_SlotTaken := exm_own sub_SlotTaken cI_SlotTaken cT_SlotTaken su_SlotTaken_SlotTaken, kit_SlotTaken_EmptySlot := kit_own cI_EmptySlot cT_EmptySlot su_SlotTaken_EmptySlot (.inr fun z => by rw [← z, su_SlotTaken_SlotTaken] at su_SlotTaken_EmptySlot; cases su_SlotTaken_EmptySlot), te_SlotTaken_EmptySlot := exm_own sub_EmptySlot cI_EmptySlot cT_EmptySlot su_SlotTaken_EmptySlot, C_EmptySlot := _, g_EmptySlot := PySem.W.mg_of X G gC_EmptySlot, cB_EmptySlot := sub_EmptySlot, cT_EmptySlot := cT_EmptySlot, kC_EmptySlot := kC_EmptySlot, is_EmptySlot := { c := cI_EmptySlot, ga := ga_EmptySlot, gt := gt_EmptySlot, sub := sub_EmptySlot, kc := kc_EmptySlot, kg := kgC, kt := ktC, ob := ob_EmptySlot }, xf_EmptySlot := ⟨ga_EmptySlot, gt_EmptySlot, sub_EmptySlot, hd_EmptySlot⟩, kit_EmptySlot_PagesError := kit_own cI_PagesError cT_PagesError su_EmptySlot_PagesError (.inl rfl), te_EmptySlot_PagesError := exm_own sub_PagesError cI_PagesError cT_PagesError su_EmptySlot_PagesError, kit_EmptySlot_BadShape := kit_own cI_BadShape cT_BadShape su_EmptySlot_BadShape (.inr fun z => by rw [← z, su_EmptySlot_EmptySlot] at su_EmptySlot_BadShape; cases su_EmptySlot_BadShape), te_EmptySlot_BadShape := exm_own sub_BadShape cI_BadShape cT_BadShape su_EmptySlot_BadShape, kit_EmptySlot_TableFull := kit_own cI_TableFull cT_TableFull su_EmptySlot_TableFull (.inr fun z => by rw [← z, su_EmptySlot_EmptySlot] at su_EmptySlot_TableFull; cases su_EmptySlot_TableFull), te_EmptySlot_TableFull := exm_own sub_TableFull cI_TableFull cT_TableFull su_EmptySlot_TableFull, kit_EmptySlot_NoPlace := kit_own cI_NoPlace cT_NoPlace su_EmptySlot_NoPlace (.inr fun z => by rw [← z, su_EmptySlot_EmptySlot] at su_EmptySlot_NoPlace; cases su_EmptySlot_NoPlace), te_EmptySlot_NoPlace := exm_own sub_NoPlace cI_NoPlace cT_NoPlace su_EmptySlot_NoPlace, kit_EmptySlot_BadRow := kit_own cI_BadRow cT_BadRow su_EmptySlot_BadRow (.inr fun z => by rw [← z, su_EmptySlot_EmptySlot] at su_EmptySlot_BadRow; cases su_EmptySlot_BadRow), te_EmptySlot_BadRow := exm_own sub_BadRow cI_BadRow cT_BadRow su_EmptySlot_BadRow, kit_EmptySlot_SlotTaken := kit_own cI_SlotTaken cT_SlotTaken su_EmptySlot_SlotTaken (.inr fun z => by rw [← z, su_EmptySlot_EmptySlot] at su_EmptySlot_SlotTaken; cases su_EmptySlot_SlotTaken), te_EmptySlot_SlotTaken := exm_own sub_SlotTaken cI_SlotTaken cT_SlotTaken su_EmptySlot_SlotTaken, kit_EmptySlot_EmptySlot := kit_own cI_EmptySlot cT_EmptySlot su_EmptySlot_EmptySlot (.inl rfl), te_EmptySlot_EmptySlot := exm_own sub_EmptySlot cI_EmptySlot cT_EmptySlot su_EmptySlot_EmptySlot, t_GREATEST := _, g_GREATEST := PySem.W.mg_of X G g_GREATEST, z_abs := PySem.W.mg_none_of X G z_abs, z_bool := PySem.W.mg_none_of X G z_bool, z_int := PySem.W.mg_none_of X G z_int, z_isinstance := PySem.W.mg_none_of X G z_isinstance, z_len := PySem.W.mg_none_of X G z_len, z_list := PySem.W.mg_none_of X G z_list, z_range := PySem.W.mg_none_of X G z_range, z_str := PySem.W.mg_none_of X G z_str, z_tuple := PySem.W.mg_none_of X G z_tuple }
  exact ⟨PySem.W.fnOf "law" "law" (defArgs s_law) (defBody s_law) (defScope s_law) .none kV25 dc25 pm25 an25 cd25 ct25, fun s v => .of_eq rfl, fun base _ _ => ok_law F25 T⟩
end Y
open PySem PySem.W PyProof.Rows
set_option maxHeartbeats 0 in
theorem PySem.Challenge.cw_wholepages_k04_first_empty_address_holds : PySem.Challenge.rw_wholepages_k04_first_empty_address.Holds := by
  w_on; o_law; k_head; (case hw => w_witness2)
  k_fill
  refine L2.walk_of (l := PySem.Challenge.rw_wholepages_k04_first_empty_address) (n := 63) (k := 6) (x := "_law_script") (CX := fun _ => L2.CX0) (sp := fun w => Y.spLaw _) rfl (by decide) rfl ⟨rfl, by decide, by decide⟩ (fun w h Y => PySem.W.kIn_of Y) ?F (fun _ _ a ns hl _ hS => ⟨a, ns, rfl, hS, hl, fun _ => rfl⟩) (fun _ _ _ _ _ h => h)
  case F =>
    intro w mg fa h KX G hmg
    refine' Y.all_mk KX G hmg ?gC_PagesError ?gC_BadShape ?gC_TableFull ?gC_NoPlace ?gC_BadRow ?gC_SlotTaken ?gC_EmptySlot ?kgC ?ktC ?ga_PagesError ?gt_PagesError ?sub_PagesError ?kc_PagesError ?ob_PagesError ?cI_PagesError ?cT_PagesError ?hd_PagesError ?kC_PagesError ?sv_PagesError ?xF_PagesError ?sg_PagesError ?rd_PagesError ?vV_PagesError ?su_PagesError_PagesError ?su_PagesError_BadShape ?su_PagesError_TableFull ?su_PagesError_NoPlace ?su_PagesError_BadRow ?su_PagesError_SlotTaken ?su_PagesError_EmptySlot ?ga_BadShape ?gt_BadShape ?sub_BadShape ?kc_BadShape ?ob_BadShape ?cI_BadShape ?cT_BadShape ?hd_BadShape ?kC_BadShape ?sv_BadShape ?xF_BadShape ?sg_BadShape ?rd_BadShape ?vV_BadShape ?su_BadShape_PagesError ?su_BadShape_BadShape ?su_BadShape_TableFull ?su_BadShape_NoPlace ?su_BadShape_BadRow ?su_BadShape_SlotTaken ?su_BadShape_EmptySlot ?ga_TableFull ?gt_TableFull ?sub_TableFull ?kc_TableFull ?ob_TableFull ?cI_TableFull ?cT_TableFull ?hd_TableFull ?kC_TableFull ?sv_TableFull ?xF_TableFull ?sg_TableFull ?rd_TableFull ?vV_TableFull ?su_TableFull_PagesError ?su_TableFull_BadShape ?su_TableFull_TableFull ?su_TableFull_NoPlace ?su_TableFull_BadRow ?su_TableFull_SlotTaken ?su_TableFull_EmptySlot ?ga_NoPlace ?gt_NoPlace ?sub_NoPlace ?kc_NoPlace ?ob_NoPlace ?cI_NoPlace ?cT_NoPlace ?hd_NoPlace ?kC_NoPlace ?xL_NoPlace ?sa_NoPlace ?no_NoPlace ?su_NoPlace_PagesError ?su_NoPlace_BadShape ?su_NoPlace_TableFull ?su_NoPlace_NoPlace ?su_NoPlace_BadRow ?su_NoPlace_SlotTaken ?su_NoPlace_EmptySlot ?ga_BadRow ?gt_BadRow ?sub_BadRow ?kc_BadRow ?ob_BadRow ?cI_BadRow ?cT_BadRow ?hd_BadRow ?kC_BadRow ?xL_BadRow ?sa_BadRow ?no_BadRow ?su_BadRow_PagesError ?su_BadRow_BadShape ?su_BadRow_TableFull ?su_BadRow_NoPlace ?su_BadRow_BadRow ?su_BadRow_SlotTaken ?su_BadRow_EmptySlot ?ga_SlotTaken ?gt_SlotTaken ?sub_SlotTaken ?kc_SlotTaken ?ob_SlotTaken ?cI_SlotTaken ?cT_SlotTaken ?hd_SlotTaken ?kC_SlotTaken ?xL_SlotTaken ?sa_SlotTaken ?no_SlotTaken ?su_SlotTaken_PagesError ?su_SlotTaken_BadShape ?su_SlotTaken_TableFull ?su_SlotTaken_NoPlace ?su_SlotTaken_BadRow ?su_SlotTaken_SlotTaken ?su_SlotTaken_EmptySlot ?ga_EmptySlot ?gt_EmptySlot ?sub_EmptySlot ?kc_EmptySlot ?ob_EmptySlot ?cI_EmptySlot ?cT_EmptySlot ?hd_EmptySlot ?kC_EmptySlot ?xL_EmptySlot ?sa_EmptySlot ?no_EmptySlot ?su_EmptySlot_PagesError ?su_EmptySlot_BadShape ?su_EmptySlot_TableFull ?su_EmptySlot_NoPlace ?su_EmptySlot_BadRow ?su_EmptySlot_SlotTaken ?su_EmptySlot_EmptySlot ?gC_Shape ?pgc_Shape ?icc_Shape ?poc_Shape ?sac_Shape ?kpc_Shape ?mkc_Shape ?s1_Shape_chunk ?s2_Shape_chunk ?s3_Shape_chunk ?s4_Shape_chunk ?s5_Shape_chunk ?s1_Shape_columns ?s2_Shape_columns ?s3_Shape_columns ?s4_Shape_columns ?s5_Shape_columns ?s1_Shape_pages ?s2_Shape_pages ?s3_Shape_pages ?s4_Shape_pages ?s5_Shape_pages ?s1_Shape_slots ?s2_Shape_slots ?s3_Shape_slots ?s4_Shape_slots ?s5_Shape_slots ?rdc_Shape ?sgc_Shape ?cv_Shape_MOST_PAGES ?cv_Shape_MOST_SLOTS ?cv_Shape_MOST_CHUNK ?cv_Shape_MOST_COLUMNS ?gC_Table ?pgc_Table ?icc_Table ?poc_Table ?sac_Table ?kpc_Table ?mkc_Table ?hdi_Table ?nf_Table_shape ?nf_Table__rows ?a0 ?t0 ?l0 ?c0 ?k0 ?a1 ?t1 ?l1 ?c1 ?k1 ?a2 ?t2 ?l2 ?c2 ?k2 ?a3 ?t3 ?l3 ?c3 ?k3 ?a4 ?l4 ?c4 ?k4 ?a5 ?l5 ?c5 ?k5 ?a6 ?fn6 ?l6 ?c6 ?k6 ?a7 ?l7 ?c7 ?k7 ?a8 ?l8 ?c8 ?k8 ?a9 ?l9 ?c9 ?k9 ?a10 ?l10 ?c10 ?k10 ?a11 ?l11 ?c11 ?k11 ?a12 ?l12 ?c12 ?k12 ?a13 ?l13 ?c13 ?k13 ?a14 ?l14 ?c14 ?k14 ?a15 ?l15 ?c15 ?k15 ?a16 ?l16 ?c16 ?k16 ?a17 ?fn17 ?l17 ?c17 ?k17 ?a18 ?fn18 ?l18 ?c18 ?k18 ?a19 ?fn19 ?l19 ?c19 ?k19 ?a20 ?l20 ?c20 ?k20 ?a21 ?fn21 ?l21 ?c21 ?k21 ?a22 ?fn22 ?l22 ?kn22_0 ?kn22_1 ?c22 ?k22 ?a23 ?fn23 ?l23 ?c23 ?k23 ?pa24 ?a24 ?pg24 ?pt24 ?l24 ?c24 ?k24 ?a25 ?l25 ?c25 ?k25 ?g_GREATEST ?z_abs ?z_bool ?z_int ?z_isinstance ?z_len ?z_list ?z_range ?z_str ?z_tuple
    (case gC_PagesError => k_is); (case gC_BadShape => k_is); (case gC_TableFull => k_is); (case gC_NoPlace => k_is); (case gC_BadRow => k_is); (case gC_SlotTaken => k_is); (case gC_EmptySlot => k_is); (case kgC => k_is); (case ktC => k_is); (case ga_PagesError => k_is); (case gt_PagesError => k_is); (case sub_PagesError => k_is); (case kc_PagesError => k_is); (case ob_PagesError => k_is); (case cI_PagesError => k_is); (case cT_PagesError => k_is); (case hd_PagesError => k_is); (case kC_PagesError => k_is); (case sv_PagesError => k_is); (case xF_PagesError => k_exc); (case sg_PagesError => k_is); (case rd_PagesError => k_is); (case vV_PagesError => k_is); (case su_PagesError_PagesError => k_is); (case su_PagesError_BadShape => k_is); (case su_PagesError_TableFull => k_is); (case su_PagesError_NoPlace => k_is); (case su_PagesError_BadRow => k_is); (case su_PagesError_SlotTaken => k_is); (case su_PagesError_EmptySlot => k_is); (case ga_BadShape => k_is); (case gt_BadShape => k_is); (case sub_BadShape => k_is); (case kc_BadShape => k_is); (case ob_BadShape => k_is); (case cI_BadShape => k_is); (case cT_BadShape => k_is); (case hd_BadShape => k_is); (case kC_BadShape => k_is); (case sv_BadShape => k_is); (case xF_BadShape => k_exc); (case sg_BadShape => k_is); (case rd_BadShape => k_is); (case vV_BadShape => k_is); (case su_BadShape_PagesError => k_is); (case su_BadShape_BadShape => k_is); (case su_BadShape_TableFull => k_is); (case su_BadShape_NoPlace => k_is); (case su_BadShape_BadRow => k_is); (case su_BadShape_SlotTaken => k_is); (case su_BadShape_EmptySlot => k_is); (case ga_TableFull => k_is); (case gt_TableFull => k_is); (case sub_TableFull => k_is); (case kc_TableFull => k_is); (case ob_TableFull => k_is); (case cI_TableFull => k_is); (case cT_TableFull => k_is); (case hd_TableFull => k_is); (case kC_TableFull => k_is); (case sv_TableFull => k_is); (case xF_TableFull => k_exc); (case sg_TableFull => k_is); (case rd_TableFull => k_is); (case vV_TableFull => k_is); (case su_TableFull_PagesError => k_is); (case su_TableFull_BadShape => k_is); (case su_TableFull_TableFull => k_is); (case su_TableFull_NoPlace => k_is); (case su_TableFull_BadRow => k_is); (case su_TableFull_SlotTaken => k_is); (case su_TableFull_EmptySlot => k_is); (case ga_NoPlace => k_is); (case gt_NoPlace => k_is); (case sub_NoPlace => k_is); (case kc_NoPlace => k_is); (case ob_NoPlace => k_is); (case cI_NoPlace => k_is); (case cT_NoPlace => k_is); (case hd_NoPlace => k_is); (case kC_NoPlace => k_is); (case xL_NoPlace => k_is); (case sa_NoPlace => k_is); (case no_NoPlace => k_is); (case su_NoPlace_PagesError => k_is); (case su_NoPlace_BadShape => k_is); (case su_NoPlace_TableFull => k_is); (case su_NoPlace_NoPlace => k_is); (case su_NoPlace_BadRow => k_is); (case su_NoPlace_SlotTaken => k_is); (case su_NoPlace_EmptySlot => k_is); (case ga_BadRow => k_is); (case gt_BadRow => k_is); (case sub_BadRow => k_is); (case kc_BadRow => k_is); (case ob_BadRow => k_is); (case cI_BadRow => k_is); (case cT_BadRow => k_is); (case hd_BadRow => k_is); (case kC_BadRow => k_is); (case xL_BadRow => k_is); (case sa_BadRow => k_is); (case no_BadRow => k_is); (case su_BadRow_PagesError => k_is); (case su_BadRow_BadShape => k_is); (case su_BadRow_TableFull => k_is); (case su_BadRow_NoPlace => k_is); (case su_BadRow_BadRow => k_is); (case su_BadRow_SlotTaken => k_is); (case su_BadRow_EmptySlot => k_is); (case ga_SlotTaken => k_is); (case gt_SlotTaken => k_is); (case sub_SlotTaken => k_is); (case kc_SlotTaken => k_is); (case ob_SlotTaken => k_is); (case cI_SlotTaken => k_is); (case cT_SlotTaken => k_is); (case hd_SlotTaken => k_is); (case kC_SlotTaken => k_is); (case xL_SlotTaken => k_is); (case sa_SlotTaken => k_is); (case no_SlotTaken => k_is); (case su_SlotTaken_PagesError => k_is); (case su_SlotTaken_BadShape => k_is); (case su_SlotTaken_TableFull => k_is); (case su_SlotTaken_NoPlace => k_is); (case su_SlotTaken_BadRow => k_is); (case su_SlotTaken_SlotTaken => k_is); (case su_SlotTaken_EmptySlot => k_is); (case ga_EmptySlot => k_is); (case gt_EmptySlot => k_is); (case sub_EmptySlot => k_is); (case kc_EmptySlot => k_is); (case ob_EmptySlot => k_is); (case cI_EmptySlot => k_is); (case cT_EmptySlot => k_is); (case hd_EmptySlot => k_is); (case kC_EmptySlot => k_is); (case xL_EmptySlot => k_is); (case sa_EmptySlot => k_is); (case no_EmptySlot => k_is); (case su_EmptySlot_PagesError => k_is); (case su_EmptySlot_BadShape => k_is); (case su_EmptySlot_TableFull => k_is); (case su_EmptySlot_NoPlace => k_is); (case su_EmptySlot_BadRow => k_is); (case su_EmptySlot_SlotTaken => k_is); (case su_EmptySlot_EmptySlot => k_is); (case gC_Shape => k_is); (case pgc_Shape => k_is); (case icc_Shape => k_is); (case poc_Shape => k_is); (case sac_Shape => k_is); (case kpc_Shape => k_is); (case mkc_Shape => k_is); (case s1_Shape_chunk => k_is); (case s2_Shape_chunk => k_is); (case s3_Shape_chunk => k_is); (case s4_Shape_chunk => k_is); (case s5_Shape_chunk => k_is); (case s1_Shape_columns => k_is); (case s2_Shape_columns => k_is); (case s3_Shape_columns => k_is); (case s4_Shape_columns => k_is); (case s5_Shape_columns => k_is); (case s1_Shape_pages => k_is); (case s2_Shape_pages => k_is); (case s3_Shape_pages => k_is); (case s4_Shape_pages => k_is); (case s5_Shape_pages => k_is); (case s1_Shape_slots => k_is); (case s2_Shape_slots => k_is); (case s3_Shape_slots => k_is); (case s4_Shape_slots => k_is); (case s5_Shape_slots => k_is); (case rdc_Shape => k_is); (case sgc_Shape => k_is); (case cv_Shape_MOST_PAGES => k_is); (case cv_Shape_MOST_SLOTS => k_is); (case cv_Shape_MOST_CHUNK => k_is); (case cv_Shape_MOST_COLUMNS => k_is); (case gC_Table => k_is); (case pgc_Table => k_is); (case icc_Table => k_is); (case poc_Table => k_is); (case sac_Table => k_is); (case kpc_Table => k_is); (case mkc_Table => k_is); (case hdi_Table => k_is); (case nf_Table_shape => k_is); (case nf_Table__rows => k_is); (case a0 => k_is); (case t0 => k_is); (case l0 => k_is); (case c0 => k_is); (case k0 => k_is); (case a1 => k_is); (case t1 => k_is); (case l1 => k_is); (case c1 => k_is); (case k1 => k_is); (case a2 => k_is); (case t2 => k_is); (case l2 => k_is); (case c2 => k_is); (case k2 => k_is); (case a3 => k_is); (case t3 => k_is); (case l3 => k_is); (case c3 => k_is); (case k3 => k_is); (case a4 => k_is); (case l4 => k_is); (case c4 => k_is); (case k4 => k_is); (case a5 => k_is); (case l5 => k_is); (case c5 => k_is); (case k5 => k_is); (case a6 => k_is); (case fn6 => k_is); (case l6 => k_is); (case c6 => k_is); (case k6 => k_is); (case a7 => k_is); (case l7 => k_is); (case c7 => k_is); (case k7 => k_is); (case a8 => k_is); (case l8 => k_is); (case c8 => k_is); (case k8 => k_is); (case a9 => k_is); (case l9 => k_is); (case c9 => k_is); (case k9 => k_is); (case a10 => k_is); (case l10 => k_is); (case c10 => k_is); (case k10 => k_is); (case a11 => k_is); (case l11 => k_is); (case c11 => k_is); (case k11 => k_is); (case a12 => k_is); (case l12 => k_is); (case c12 => k_is); (case k12 => k_is); (case a13 => k_is); (case l13 => k_is); (case c13 => k_is); (case k13 => k_is); (case a14 => k_is); (case l14 => k_is); (case c14 => k_is); (case k14 => k_is); (case a15 => k_is); (case l15 => k_is); (case c15 => k_is); (case k15 => k_is); (case a16 => k_is); (case l16 => k_is); (case c16 => k_is); (case k16 => k_is); (case a17 => k_is); (case fn17 => k_is); (case l17 => k_is); (case c17 => k_is); (case k17 => k_is); (case a18 => k_is); (case fn18 => k_is); (case l18 => k_is); (case c18 => k_is); (case k18 => k_is); (case a19 => k_is); (case fn19 => k_is); (case l19 => k_is); (case c19 => k_is); (case k19 => k_is); (case a20 => k_is); (case l20 => k_is); (case c20 => k_is); (case k20 => k_is); (case a21 => k_is); (case fn21 => k_is); (case l21 => k_is); (case c21 => k_is); (case k21 => k_is); (case a22 => k_is); (case fn22 => k_is); (case l22 => k_is); (case kn22_0 => k_is); (case kn22_1 => k_is); (case c22 => k_is); (case k22 => k_is); (case a23 => k_is); (case fn23 => k_is); (case l23 => k_is); (case c23 => k_is); (case k23 => k_is); (case pa24 => k_is); (case a24 => k_is); (case pg24 => k_is); (case pt24 => k_is); (case l24 => k_is); (case c24 => k_is); (case k24 => k_is); (case a25 => k_is); (case l25 => k_is); (case c25 => k_is); (case k25 => k_is); (case g_GREATEST => k_is); (case z_abs => k_is); (case z_bool => k_is); (case z_int => k_is); (case z_isinstance => k_is); (case z_len => k_is); (case z_list => k_is); (case z_range => k_is); (case z_str => k_is); (case z_tuple => k_is)
